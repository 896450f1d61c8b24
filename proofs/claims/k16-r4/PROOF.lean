import PyProof.Rows.All
import Wide.All
import OpenK.AllK
import Wide.FinOn
import HandS.GenList
import HandS.AnyAll
import HandS.EndOwn
import HandS.SortInts
import HandS.Walk
import HandS.ForMost
import HandS.Style
import HandS.Conv
import HandS.Evl
import HandS.Wide
import HandS.Star
import HandS.IsInst
import KE.BitLaws
import HandS.More
import PySem.Challenge.RW_kraftroom_k16_forms_of_a_block
import HandS.WideBits
import HandS.ExcInit
import HandS.ExcIs
import HandS.FStr
import KE.KExcIs
import KE.KExcPX
import KE.KTypeName
import HandS.TryMany
import HandS.ExcField
import HandS.ExcOwn
import HandS.WordsExc
import HandS.Zip
import HandS.SortKw
import HandS.NamedTupSort
import HandS.DictEq
import KE.DataMinMax
import KE.KDictSum
import HandS.CallLocal
import HandS.EndTab
set_option Elab.async false
set_option linter.all false
set_option maxRecDepth 100000
set_option maxHeartbeats 4000000
/-! Generator expressions over the layer: any target, tests, element; consumed by sorted, sum, any, all. -/
namespace GX
open PySem PySem.Spec PyProof.Rows L2 GenW

abbrev Pins := List (Addr × Obj)
structure Sleeps (Ss : List Addr) (s s' : Shared) : Prop where
  os : s'.os = s.os
  bare : AllBare s'.gens
  keep : ∀ b o, b ∉ Ss → s.heap.get? b = some o → s'.heap.get? b = some o
structure PinsAt (Ss : List Addr) (pl : Pins) (h : Heap) : Prop where
  ad : pl.map (·.1) = Ss
  at_ : ∀ p ∈ pl, h.get? p.1 = some p.2 ∧ ∀ v, p.2.data ≠ .cell v
structure Cons where
  Ss : List Addr
  Gh : List V → Pins → Prop
  Th : List V → V → Hp → Prop
  Qe : List V → Hp → Prop

abbrev gcx (X : Cx) (sB : Shared) (HB : Hp) (N' : List Str) (cenv : Env) (fp : List Addr) (A : Around) (pn : Pins) : Cx :=
  { X with A := A, N := N', s_0 := sB, H_0 := HB, env := cenv, outer := X.stack, stack := cenv :: X.stack, ex := fp, fn := fun _ => false, calm := true, pn := pn, xe := fun _ _ => False }

/-- the generator expression's own scope, its names N', which of them are captured (cm: their slots outside) -/
structure CapOk (N N' : List Str) (cm : List (Option Nat)) (scope sc : Scope) : Prop where
  kind : scope.kind = .function
  co : scope.isCoroutine = false
  cell : ∀ y ∈ scope.names, y.2 ≠ .cell
  dot : scope.names.lookup (".0" : Str) = some NameKind.local
  free : ∀ y ∈ scope.names, y.2 = .free → sc.names.lookup y.1 = some .cell ∨ sc.names.lookup y.1 = some .free
  len : cm.length = N'.length
  cap : ((cm.zip N').all fun p => match p.1 with | some j => (N[j]? == some p.2) && (scope.names.lookup p.2 == some .free) | none => true) = true
def captS (cm : List (Option Nat)) (σ : L2.St) : L2.St := cm.map fun o => match o with
  | some j => (σ[j]?).join
  | none => none
theorem captS_some {cm : List (Option Nat)} {σ : L2.St} {i : Nat} {v : V} (h : (captS cm σ)[i]? = some (some v)) : ∃ j, cm[i]? = some (some j) ∧ σ[j]? = some (some v) := by
  unfold captS at h
  rw [List.getElem?_map] at h
  cases hc : cm[i]? with
  | none => rw [hc] at h; cases h
  | some o =>
    rw [hc] at h
    cases o with
    | none => cases h
    | some j =>
      refine ⟨j, rfl, ?_⟩
      have h' : (σ[j]?).join = some v := Option.some.inj h
      cases hs : σ[j]? with
      | none => rw [hs] at h'; cases h'
      | some w => rw [hs] at h'; exact congrArg some h'
theorem CapOk.capt {N N' : List Str} {cm : List (Option Nat)} {scope sc : Scope} (ok : CapOk N N' cm scope sc) {i j : Nat} {y : Str} (h1 : cm[i]? = some (some j)) (h2 : N'[i]? = some y) : N[j]? = some y ∧ scope.names.lookup y = some .free := by
  have h := List.all_eq_true.mp ok.cap (some j, y) (List.mem_of_getElem? (i := i) (by rw [List.getElem?_zip_eq_some]; exact ⟨h1, h2⟩))
  simp only [Bool.and_eq_true, beq_iff_eq] at h
  exact h

theorem inv_gens {G : Cx} {pl : Pins} {σ : L2.St} {H : Hp} {s : Shared} (I : Inv G pl σ H s) {g : Nat} {x : GenState} (hx : x.bare = true) : Inv G pl σ H (s.setGen g x) :=
  ⟨I.ok, I.os, allBare_setGen I.bare hx, I.base, I.loc, I.cell, I.free, I.freeC, I.pin, I.hok, I.len⟩

theorem woken {G : Cx} {Ss : List Addr} {pl pl' : Pins} {σ : L2.St} {H : Hp} {s s' : Shared} (hpn : ∀ p ∈ G.pn, p.1 ∉ Ss)
    (hap : ∀ b ∈ Ss, G.s_0.heap.objs.size ≤ b ∧ b ≠ G.env.locals ∧ ∀ x c, G.env.cells.lookup x = some c → c ≠ b) (hp : PinsAt Ss pl s.heap) (I : Inv G pl σ H s) (z : Sleeps Ss s s') (hp' : PinsAt Ss pl' s'.heap) :
    Inv G pl' σ H s' := by
  have fr : ∀ b ∈ Ss, H b = none ∧ b ≠ G.env.locals ∧ b ∉ G.fs := fun b hb => by
    rw [← hp.ad] at hb
    obtain ⟨p, hm, e⟩ := List.mem_map.mp hb
    obtain ⟨_, h2, h3, h4, _⟩ := I.pin p (List.mem_append_right _ hm)
    rw [← e]
    exact ⟨h2, h3, h4⟩
  have I0 : Inv G [] σ H s := I.pins_of fun p hp => absurd hp (by simp)
  have nt : ∀ b u, H b = some u → b ∉ Ss := fun b u q hb => by rw [(fr b hb).1] at q; cases q
  obtain ⟨z1, z2, z3⟩ := z
  obtain ⟨hh, g, d, t, o⟩ := s'
  have ho : o = s.os := z1
  subst ho
  have J : Inv G [] σ H { s with heap := hh, gens := g, drawn := d, toks := t } := by
    refine I0.step (g' := g) (t' := t) (d' := d) (ch := Ss) (fun b hb => ?_)
      (fun b ob _ _ hc q _ => z3 b ob hc q) (fun b ob _ _ hc q _ => ⟨ob.slots, z3 b ob hc q⟩) (fun _ _ _ _ n => n) (fun b ob hc q => ⟨ob, z3 b ob hc q⟩)
      (fun _ _ q => q) (fun _ _ _ q => q) (fun b ps q => ⟨#[], by rw [q]; simp⟩) (fun m hm => ?_) (fun b u q => ?_) z2
    · refine ⟨.inr (hap b hb).1, (hap b hb).2.1, (hap b hb).2.2, fun p hp => ?_⟩
      rcases List.mem_append.mp hp with hp | hp
      · exact fun e => hpn p hp (by rw [e]; exact hb)
      · cases hp
    · obtain ⟨ob, es, ep, ho, r⟩ := hm
      exact ⟨ob, es, ep, z3 _ ob (fun hm => (fr _ hm).2.1 rfl) ho, r⟩
    · refine (I0.hok b u q).stay (fun c v hc y => z3 c v ?_ y) (fun _ y => y) fun _ _ y => y
      rcases hc with y | y
      · rw [y]; exact nt b u q
      · exact nt c _ y
  refine J.pins_of fun p hp => ?_
  have hS : p.1 ∈ Ss := by rw [← hp'.ad]; exact List.mem_map.mpr ⟨p, hp, rfl⟩
  exact ⟨(hp'.at_ p hp).1, (fr _ hS).1, (fr _ hS).2.1, (fr _ hS).2.2, (hp'.at_ p hp).2⟩

def GY (G : Cx) (C : Cons) (σ0 : L2.St) : Protocol := fun n s₀ v s kap =>
  ∃ ys x pl H, n + 1 + ys.length = sizeLine ∧ RelV x v ∧ PinsAt C.Ss pl s.heap ∧ C.Gh ys pl ∧ Inv G pl σ0 H s ∧ C.Th ys x H ∧
    (∀ b ∈ C.Ss, s.heap.get? b = s₀.heap.get? b) ∧ ∀ s' pl', Sleeps C.Ss s s' → PinsAt C.Ss pl' s'.heap → C.Gh (ys ++ [x]) pl' → kap (.send .none) s'
def GP (G : Cx) (C : Cons) (σ0 : L2.St) (s₀ s : Shared) : Prop := ∃ ys pl H, ys.length ≤ sizeLine ∧ PinsAt C.Ss pl s.heap ∧ C.Gh ys pl ∧ Inv G pl σ0 H s ∧ C.Qe ys H ∧ ∀ b ∈ C.Ss, s.heap.get? b = s₀.heap.get? b
def GR (G : Cx) (C : Cons) (σ0 : L2.St) : GenEnd := fun n s₀ r s => r = .ok .next ∧ GP G C σ0 s₀ s
theorem PinsAt.same {Ss : List Addr} {pl : Pins} {h h' : Heap} (a : PinsAt Ss pl h) (b : PinsAt Ss pl h') : ∀ x ∈ Ss, h'.get? x = h.get? x := fun x hx => by
  rw [← a.ad] at hx
  obtain ⟨p, hp, e⟩ := List.mem_map.mp hx
  rw [← e, (a.at_ p hp).1, (b.at_ p hp).1]

theorem over_gl {A : Around} {elt : Expr} {gens : List Comprehension} {scope : Scope} {pos : Pos} {it acc : Value} {env : Env} : A.over (.compLoop (.GeneratorExp elt gens scope pos) 0 it acc env) [] = A.deeper env := by
  first
    | rfl
    | (obtain ⟨hd, d, fr, gs, u⟩ := A; simp [Around.over, Around.deeper, marksOver, frameCount, unitsOf, envsOf, guardsOf, pushEnvs, pushGuards, Code.envs, Code.env?, Code.isFrame, Code.guards, Code.isGuard, Code.weight, Code.frames, Code.isCreation, Code.isCaller, Code.cUnits])

/-- what each turn is to bring -/
def Turns (J : It) (g : TG) (tt : TT) (te : TE) (σ0 : L2.St) (own : List Nat) (Th : List V → V → Hp → Prop) (Qe : List V → Hp → Prop) (W : Nat → Nat → List V → Hp → Prop) : Prop :=
  ∀ i m ys H, W i m ys H → (J.stop i H ∧ Qe ys H) ∨ (J.go i H ∧ ∃ Nx : List V → Hp → Prop, (∀ ys' H', Nx ys' H' → ∃ m', m' < m ∧ W (i + 1) m' ys' H') ∧
    ∀ x H', J.yld i H x H' → g x σ0 H' fun σ2 H2 => wipe σ2 own = σ0 ∧ tt σ2 H2 fun b H3 =>
      if b = true then te σ2 H3 fun y H4 => ys.length < sizeLine ∧ Th ys y H4 ∧ Nx (ys ++ [y]) H4 else Nx ys H3)

section
variable {G : Cx} {A : Around} {C : Cons} {cenv : Env} {tg elt iter : Expr} {ifs : List Expr} {scope : Scope} {pos : Pos} {J : It} {fp : List Addr} {it : Addr} {tn : Nat → Heap → Prop} {g : TG} {tt : TT} {te : TE} {σ0 : L2.St} {own : List Nat}
  {W : Nat → Nat → List V → Hp → Prop}
theorem seg_loop (hA : A.deeper cenv = G.A) (hE : G.env = cenv) (hcalm : G.calm = true) (hxe : G.xe = fun _ _ => False) (hco : cenv.scope.isCoroutine = false)
    (T : Turn G.prog G.w G.K tg J fp it tn) (hg : PG G tg g) (ht : PTs G ifs tt) (he : PE G elt te)
    (hpn : ∀ p ∈ G.pn, p.1 ∉ C.Ss) (hap : ∀ b ∈ C.Ss, G.s_0.heap.objs.size ≤ b ∧ b ≠ G.env.locals ∧ ∀ x c, G.env.cells.lookup x = some c → c ≠ b)
    (hfp : ∀ b ∈ fp, b ≠ G.env.locals ∧ b ∉ G.fs ∧ (b ∈ G.ex ∨ G.s_0.heap.objs.size ≤ b) ∧ (∀ x c, G.env.cells.lookup x = some c → c ≠ b) ∧ (∀ p ∈ G.pn, p.1 ≠ b) ∧ b ∉ C.Ss)
    (tr : Turns J g tt te σ0 own C.Th C.Qe W) :
    ∀ (m i n : Nat) (ys : List V) (s₀ s : Shared) (H : Hp) (pl : Pins), n + ys.length = sizeLine → W i m ys H → PinsAt C.Ss pl s.heap → C.Gh ys pl → Inv G pl σ0 H s → tn i s.heap → (∀ b ∈ fp, H b = none) → (∀ b ∈ C.Ss, s.heap.get? b = s₀.heap.get? b) →
      Seg (model G.prog G.w) A (GR G C σ0) (GY G C σ0) n s₀ (.compLoop (.GeneratorExp elt [⟨tg, iter, ifs, 0⟩] scope pos) 0 (.ref it) .none cenv)
        ((model G.prog G.w).den (.compLoop (.GeneratorExp elt [⟨tg, iter, ifs, 0⟩] scope pos) 0 (.ref it) .none cenv)) [] s := by
  subst hE
  intro m
  induction m using Nat.strongRecOn with
  | ind m ih =>
    intro i n ys s₀ s H pl hn w hp hgh I hst hfr hs0
    have hov : A.over (.compLoop (.GeneratorExp elt [⟨tg, iter, ifs, 0⟩] scope pos) 0 (.ref it) .none G.env) [] = G.A := over_gl.trans hA
    have stat : ∀ {pl' : Pins} {H' : Hp}, (pl'.map (·.1) = C.Ss) → (∀ b ∈ fp, H' b = none) → ∀ b ∈ fp, FpOk G pl' H' b := fun {pl' H'} had hn b hb => by
      obtain ⟨h1, h2, h3, h4, h5, h6⟩ := hfp b hb
      refine ⟨hn b hb, h1, h2, h3, h4, fun p hp => ?_⟩
      rcases List.mem_append.mp hp with hp | hp
      · exact h5 p hp
      · intro e
        exact h6 (by rw [← had, ← e]; exact List.mem_map.mpr ⟨p, hp, rfl⟩)
    show Seg _ A _ _ _ s₀ _ ((compTurn (.GeneratorExp elt [⟨tg, iter, ifs, 0⟩] scope pos) 0 (.ref it) .none G.env).onRaise (leaving G.env)) [] s
    rw [compTurn_gen, Sem.onRaise_eq_wrap]
    refine seg_bind_wrap (wpAny_standAt ?_)
    rcases tr i m ys H w with ⟨stop, qn⟩ | ⟨go, Nx, hN, step⟩
    · refine seg_bind_wrap ?_
      rw [hov]
      refine thn (T.done G rfl rfl rfl hcalm i pl s σ0 H _ I (stat hp.ad hfr) hst stop) fun r s4 ⟨hr, I4⟩ => ?_
      subst hr
      have hp4 : PinsAt C.Ss pl s4.heap := ⟨hp.ad, fun p hm => ⟨(I4.pin p (List.mem_append_right _ hm)).1, (hp.at_ p hm).2⟩⟩
      exact seg_end (.ok .next) ⟨rfl, ys, pl, H, by omega, hp4, hgh, I4, qn, fun b hb => (hp.same hp4 b hb).trans (hs0 b hb)⟩
    · refine seg_bind_wrap ?_
      rw [hov]
      refine thn (T.item G rfl rfl rfl hcalm i pl s σ0 H _ I (stat hp.ad hfr) hst go) fun r s4 ⟨u, hr, h4⟩ => ?_
      subst hr
      refine seg_bind_wrap ?_
      rw [hov]
      refine thn h4 fun _ s5 ⟨x, H5, I5, r5, y5, st5, fr5⟩ => ?_
      have I5' := I5.pinned (stat hp.ad fr5) (T.obj _ _ st5)
      refine seg_bind_wrap ?_
      rw [hov]
      refine wpAny_mono (hg.run _ s5 σ0 H5 x u _ I5' r5 (step x H5 y5)) (fun _ s6 ⟨σ6, H6, I6, hw6, q6⟩ => ?_) fun e s' hx => absurd hx (by rw [hxe]; exact fun z => z)
      refine seg_bind_wrap ?_
      rw [hov]
      refine wpAny_mono (ht.run _ s6 σ6 H6 _ I6 q6) (fun ok s7 ⟨H7, I7, q7⟩ => ?_) fun e s' hx => absurd hx (by rw [hxe]; exact fun z => z)
      have back : ∀ {s8 : Shared} {H8 : Hp}, Inv G (pl ++ pinsAt fp s5.heap) σ6 H8 s8 → Inv G pl σ0 H8 s8 ∧ PinsAt C.Ss pl s8.heap ∧ (∀ b ∈ fp, H8 b = none) ∧ ∀ b ∈ fp, ∀ o, s5.heap.get? b = some o → s8.heap.get? b = some o := fun {s8 H8} I8 => by
        refine ⟨(I8.unpinned).weak (by rw [← hw6, wipe_length]) fun j v hv => ?_, ⟨hp.ad, fun p hm => ?_⟩, fun b hb => ?_, fun b hb o e => ?_⟩
        · rw [← hw6] at hv
          exact (wipe_some hv).1
        · exact ⟨(I8.pin p (List.mem_append_right _ (List.mem_append_left _ hm))).1, (hp.at_ p hm).2⟩
        · obtain ⟨o, e, d⟩ := T.obj _ _ st5 b hb
          exact (I8.pin (b, o) (List.mem_append_right _ (List.mem_append_right _ (mem_pinsAt hb e)))).2.1
        · exact (I8.pin (b, o) (List.mem_append_right _ (List.mem_append_right _ (mem_pinsAt hb e)))).1
      cases ok with
      | false =>
        rw [if_neg Bool.false_ne_true] at q7
        simp only [Bool.false_eq_true, if_false]
        obtain ⟨I8, hp8, hf8, hk8⟩ := back I7
        obtain ⟨m', hm', w'⟩ := hN _ _ q7
        exact seg_again rfl (ih m' hm' (i + 1) n ys s₀ s7 H7 pl hn w' hp8 hgh I8 (T.keep _ _ _ st5 hk8) hf8 fun b hb => (hp.same hp8 b hb).trans (hs0 b hb))
      | true =>
        rw [if_pos rfl] at q7
        simp only [if_true]
        have hy : ∀ v, yieldOut G.env v = yieldValue v := fun v => by simp only [yieldOut, hco, Bool.false_eq_true, if_false]
        simp only [hy]
        rw [Sem.bind_eq_wrap', Sem.bind_eq_wrap', Sem.wrap_wrap, Sem.wrap_wrap]
        refine seg_wrap ?_
        rw [hov]
        refine wpAny_mono (he.run _ s7 σ6 H7 _ I7 q7) (fun v s8 ⟨y, H8, I8', r8, hlt, hth, hnx⟩ => ?_) fun e s' hx => absurd hx (by rw [hxe]; exact fun z => z)
        obtain ⟨n, rfl⟩ : ∃ k, n = k + 1 := ⟨n - 1, by omega⟩
        obtain ⟨I8, hp8, hf8, hk8⟩ := back I8'
        obtain ⟨m', hm', w'⟩ := hN _ _ hnx
        refine seg_at (seg_yield rfl rfl rfl ⟨ys, y, pl, H8, hn, r8, hp8, hgh, I8, hth, fun b hb => (hp.same hp8 b hb).trans (hs0 b hb), fun s'' pl' hsl hpl' hgh' => ?_⟩)
        refine seg_again rfl (ih m' hm' (i + 1) n (ys ++ [y]) s'' s'' H8 pl' (by rw [List.length_append, List.length_singleton]; omega) w' hpl' hgh' (woken hpn hap hp8 I8 hsl hpl')
          (T.keep _ _ _ st5 fun b hb o e => hsl.keep b o (hfp b hb).2.2.2.2.2 (hk8 b hb o e)) hf8 fun _ _ => rfl)

theorem seg_start (hA : A.deeper cenv = G.A) (hE : G.env = cenv) (hcalm : G.calm = true) (hxe : G.xe = fun _ _ => False) (hco : cenv.scope.isCoroutine = false)
    (T : Turn G.prog G.w G.K tg J fp it tn) (hg : PG G tg g) (ht : PTs G ifs tt) (he : PE G elt te)
    (hpn : ∀ p ∈ G.pn, p.1 ∉ C.Ss) (hap : ∀ b ∈ C.Ss, G.s_0.heap.objs.size ≤ b ∧ b ≠ G.env.locals ∧ ∀ x c, G.env.cells.lookup x = some c → c ≠ b)
    (hfp : ∀ b ∈ fp, b ≠ G.env.locals ∧ b ∉ G.fs ∧ (b ∈ G.ex ∨ G.s_0.heap.objs.size ≤ b) ∧ (∀ x c, G.env.cells.lookup x = some c → c ≠ b) ∧ (∀ p ∈ G.pn, p.1 ≠ b) ∧ b ∉ C.Ss)
    (tr : Turns J g tt te σ0 own C.Th C.Qe W) {m : Nat} {s₀ s : Shared} {H : Hp} {pl : Pins} (w : W 0 m [] H) (hp : PinsAt C.Ss pl s.heap) (hgh : C.Gh [] pl) (I : Inv G pl σ0 H s) (hst : tn 0 s.heap) (hfr : ∀ b ∈ fp, H b = none) (hs0 : ∀ b ∈ C.Ss, s.heap.get? b = s₀.heap.get? b) :
    Seg (model G.prog G.w) A (GR G C σ0) (GY G C σ0) sizeLine s₀ (.compStart (.GeneratorExp elt [⟨tg, iter, ifs, 0⟩] scope pos) 0 (.ref it) .none cenv)
      ((model G.prog G.w).den (.compStart (.GeneratorExp elt [⟨tg, iter, ifs, 0⟩] scope pos) 0 (.ref it) .none cenv)) [] s := by
  have loop := seg_loop (iter := iter) (scope := scope) (pos := pos) hA hE hcalm hxe hco T hg ht he hpn hap hfp tr m 0 sizeLine [] s₀ s H pl rfl w hp hgh I hst hfr hs0
  show Seg _ A _ _ _ s₀ _ ((compStart (.GeneratorExp elt [⟨tg, iter, ifs, 0⟩] scope pos) 0 (.ref it) .none cenv).onRaise (leaving cenv)) [] s
  unfold compStart
  rw [Sem.onRaise_eq_wrap]
  show Seg _ A _ _ _ s₀ _ ((ask >>= _).wrap _ _ _ _) [] s
  refine seg_bind_wrap (wpAny_askSetting ?_)
  split
  · exact seg_again rfl loop
  · first
      | exact seg_bind_wrap (wpAny_rule (seg_bind_wrap (wpAny_standAt (seg_bind_wrap (T.self _ 0 s _ _ hst (seg_again rfl loop))))))
      | (refine seg_bind_wrap (wpAny_rule ?_); show Seg _ A _ _ _ s₀ _ ((standAt iter.pos >>= _).wrap _ _ _ _) [] s; exact seg_bind_wrap (wpAny_standAt (seg_bind_wrap (T.self _ 0 s _ _ hst (seg_again rfl loop)))))
end
end GX
set_option Elab.async false
set_option linter.all false
set_option maxRecDepth 100000
set_option maxHeartbeats 4000000
namespace GX
open PySem PySem.Spec PyProof.Rows L2 GenW

section
variable {X : Cx} {pins : Pins} {σ : L2.St} {H : Hp} {sB : Shared} {N' : List Str} {cm : List (Option Nat)} {scope : Scope}
theorem gen_start (I : Inv X pins σ H sB) (ok : CapOk X.N N' cm scope X.env.scope) {code : Value} {fp : List Addr} (hfp : ∀ b ∈ fp, FpOk X pins H b ∧ b < sB.heap.objs.size)
    {A : Around} (hA : A.handled = none) (hfr : A.frames = some (genEnv scope (cloFrom X.env.cells scope.names []) sB.heap.objs.size code builtinsNs X.env :: X.stack))
    {s2 : Shared} {m0 : Str → Option Value} (hn : s2.heap.Ns sB.heap.objs.size m0) (hk : ∀ b o, sB.heap.get? b = some o → s2.heap.get? b = some o) (hos : s2.os = sB.os) (hb : AllBare s2.gens) {pn pl : Pins}
    (hp : ∀ p ∈ pn ++ pl, s2.heap.get? p.1 = some p.2 ∧ sB.heap.objs.size < p.1 ∧ ∀ v, p.2.data ≠ .cell v) :
    Inv (gcx X sB H N' (genEnv scope (cloFrom X.env.cells scope.names []) sB.heap.objs.size code builtinsNs X.env) fp A pn) pl (captS cm σ) H s2 := by
  have hfree : ∀ y ∈ scope.names, y.2 = .free → ∃ c, X.env.cells.lookup y.1 = some c := fun y hy e => by
    rcases ok.free y hy e with k | k
    · exact I.ok.has _ (.inl k)
    · exact I.ok.has _ (.inr k)
  have cm1 : ∀ {y c}, (cloFrom X.env.cells scope.names []).lookup y = some c → X.env.cells.lookup y = some c ∧ c < sB.heap.objs.size := fun {y c} hm => by
    rcases cloFrom_mem (PySem.mem_of_lookup hm) with hm | ⟨h1, rfl⟩
    · cases hm
    · obtain ⟨c, hc⟩ := hfree _ h1 rfl
      rw [hc]
      obtain ⟨w, z⟩ := I.cell _ _ hc
      exact ⟨rfl, z.lt⟩
  have look : ∀ {y}, scope.names.lookup y = some .free → ∃ c, (cloFrom X.env.cells scope.names []).lookup y = some c ∧ X.env.cells.lookup y = some c := fun {y} hl => by
    have hy : (y, NameKind.free) ∈ scope.names := PySem.mem_of_lookup hl
    obtain ⟨c', e'⟩ := mem_lookup (cloFrom_has (cells := X.env.cells) (acc := []) hy)
    exact ⟨c', e', (cm1 e').1⟩
  have nstk : ∀ b, sB.heap.objs.size ≤ b → b ∉ frs X.stack := fun b hb z => by
    rcases List.mem_cons.mp (I.stkSub b z) with z | z
    · exact absurd (Nat.lt_of_lt_of_le I.lt (by rw [← z]; exact hb)) (Nat.lt_irrefl _)
    · exact I.nofs hb z
  have okB : (gcx X sB H N' (genEnv scope (cloFrom X.env.cells scope.names []) sB.heap.objs.size code builtinsNs X.env) fp A pn).Ok := by
    refine ⟨I.ok.mod, ok.kind, I.ok.glob, rfl, Nat.le_refl _, fun y z c e1 e2 => I.ok.inj y z c (cm1 e1).1 (cm1 e2).1, fun y hy => ?_, fun y c z e => ?_, fun _ => hA, hfr, .inr ⟨rfl, rfl⟩, fun b hb => ⟨?_, fun y c e z => ?_⟩, I.bs, Nat.le_trans I.ok.bsz I.sz, fun b o e hb => ?_, fun b hb z => ?_, I.stack, I.stkFree⟩
    · rcases hy with hy | hy
      · exact absurd rfl (ok.cell _ (PySem.mem_of_lookup hy))
      · obtain ⟨c, h1, _⟩ := look hy
        exact ⟨c, h1⟩
    · exact absurd (show false = true from z) Bool.false_ne_true
    · exact Nat.ne_of_lt (hfp b hb).2
    · exact (hfp b hb).1.2.2.2.2.1 y c (cm1 e).1 z
    · rcases (hfp b hb).1.2.2.2.1 with z | z
      · exact I.ok.noex b o e z
      · exact absurd (Nat.lt_of_lt_of_le (Heap.lt_size e) (Nat.le_trans I.ok.bsz z)) (Nat.lt_irrefl _)
    · rcases List.mem_cons.mp (I.stkSub b z) with z | z
      · exact (hfp b hb).1.2.1 z
      · exact (hfp b hb).1.2.2.1 z
  refine ⟨okB, hos, hb, Un.kept hk, ⟨m0, hn, fun i y av e1 e2 e3 => ?_⟩, fun y c e => ?_, I.hok.fresh (Nat.le_refl _), fun y c e => I.freeC y c (cm1 e).1, fun p hm => ?_, I.hok.kept hk, by
    show (captS cm σ).length = N'.length
    unfold captS
    rw [List.length_map, ok.len]⟩
  · obtain ⟨j, hj, hs⟩ := captS_some e2
    obtain ⟨hy, hf⟩ := ok.capt hj e1
    obtain ⟨m, hn2, hl⟩ := I.loc
    have hvis : Vis X.env.scope y := (ok.free _ (PySem.mem_of_lookup hf) rfl).elim (fun k => .inr (.inl k)) (fun k => .inr (.inr k))
    obtain ⟨w, r, q⟩ := hl j y av hy hs hvis
    refine ⟨w, r, .inr ⟨.inr hf, ?_⟩⟩
    obtain ⟨c, h1, h2⟩ := look hf
    rcases q with ⟨k, _⟩ | ⟨_, c', e', z⟩
    · have k : X.env.scope.names.lookup y = some .local := k
      rcases ok.free _ (PySem.mem_of_lookup hf) rfl with k' | k' <;> rw [show X.env.scope.names.lookup y = _ from k'] at k <;> cases k
    · rw [h2] at e'; cases e'
      exact ⟨c, h1, z.keeps hk⟩
  · obtain ⟨w, z⟩ := I.cell y c (cm1 e).1
    exact ⟨w, z.keeps hk⟩
  · obtain ⟨h1, h2, h3⟩ := hp p hm
    exact ⟨h1, I.hok.fresh (Nat.le_of_lt h2), Nat.ne_of_gt h2, nstk _ (Nat.le_of_lt h2), h3⟩
end

/-- a code object's table, whatever it holds -/
def TabX (P : Addr) : HO := .ext fun h => ∃ ps : Array Value, h.get? P = some { cls := .none, data := .fields ps } ∧ TriplesOk ps.toList
theorem tabx_ok {prog : Program} {w : World} {H : Hp} {h : Heap} {P : Addr} {ps : Array Value} (e : h.get? P = some { cls := .none, data := .fields ps }) (t : TriplesOk ps.toList) : ObjOk prog w H h P (TabX P) :=
  ⟨⟨ps, e, t⟩, ⟨_, e⟩, fun h1 h2 ⟨qs, e1, t1⟩ k => ⟨qs, k _ e1, t1⟩⟩
theorem upd_id {H : Hp} {a : Addr} {o : HO} (h : H a = some o) : upd H a o = H := by
  funext b
  by_cases e : b = a
  · rw [e, upd_same, h]
  · rw [upd_ne e]
/-- a generator that has not begun -/
def RdG (X : Cx) (pins : Pins) (σ : L2.St) (k : Nat) (Th : List V → V → Hp → Prop) (Qe : List V → Hp → Prop) (u : Value) (s' : Shared) : Prop :=
  ∃ (a : Addr) (g : Nat) (c : Code) (go : Obj) (sB : Shared) (HB : Hp) (N' : List Str) (cenv : Env) (fp : List Addr) (σ0 : L2.St),
    u = .ref a ∧ Inv X pins σ HB sB ∧ ExOk X pins fp ∧ sB.heap.objs.size < a ∧ a < s'.heap.objs.size ∧ (∀ h : Heap, h.get? a = some go → h.IsGen a g) ∧ s'.heap.get? a = some go ∧ s'.gens[g]? = some (.fresh c) ∧ s'.os = sB.os ∧ AllBare s'.gens ∧ (∀ b o, sB.heap.get? b = some o → s'.heap.get? b = some o) ∧
    ∀ (A : Around) (s2 : Shared) (Ss : List Addr) (Gh : List V → Pins → Prop) (pl : Pins), Room (k + 1) A → A.frames = some X.stack → (∀ b ∈ Ss, s'.heap.objs.size ≤ b) → (∀ b o, s'.heap.get? b = some o → s2.heap.get? b = some o) → s2.os = sB.os → AllBare s2.gens → PinsAt Ss pl s2.heap → Gh [] pl →
      Seg (model X.prog X.w) A (GR (gcx X sB HB N' cenv fp (A.deeper cenv) [(a, go)]) ⟨Ss, Gh, Th, Qe⟩ σ0) (GY (gcx X sB HB N' cenv fp (A.deeper cenv) [(a, go)]) ⟨Ss, Gh, Th, Qe⟩ σ0) sizeLine s2 c ((model X.prog X.w).den c) [] s2
abbrev TGx := L2.St → Hp → (List V → V → Hp → Prop) → (List V → Hp → Prop) → Prop
structure PGx (X : Cx) (k : Nat) (e : Expr) (t : TGx) : Prop where
  run : ∀ (pins : Pins) (s : Shared) (σ : L2.St) (H : Hp) (Th : List V → V → Hp → Prop) (Qe : List V → Hp → Prop), Inv X pins σ H s → t σ H Th Qe → wpAny (model X.prog X.w) X.A (eval e X.env) (RdG X pins σ k Th Qe) X.xe s
/-- the reading of a generator expression -/
def tGx (P : Addr) (wi : TI) (g : TG) (tt : TT) (te : TE) (cm : List (Option Nat)) (own : List Nat) : TGx := fun σ H Th Qe => wi σ H fun J H1 => H1 P = some (TabX P) ∧
  ∃ W : Nat → Nat → List V → Hp → Prop, (∃ m, W 0 m [] H1) ∧ Turns J g tt te (captS cm σ) own Th Qe W

theorem pgx_gen {X : Cx} {c P : Addr} {elt iter tg : Expr} {ifs : List Expr} {scope : Scope} {gpos : Pos} {N' : List Str} {cm : List (Option Nat)} {own : List Nat} {wi : TI} {g : TG} {tt : TT} {te : TE} {k k0 : Nat}
    (hr : Room k0 X.A) (TB : GxR.TabB X.base X.mg c P) (hcode : X.env.code = .ref c) (ok : CapOk X.N N' cm scope X.env.scope) (hi : PI X tg iter wi)
    (hg : ∀ (sB : Shared) (HB : Hp) (cl : List (Str × Addr)) (L : Addr) (code : Value) (fp : List Addr) (A : Around) (pn : Pins), Room k A → PG (gcx X sB HB N' (genEnv scope cl L code builtinsNs X.env) fp A pn) tg g)
    (ht : ∀ (sB : Shared) (HB : Hp) (cl : List (Str × Addr)) (L : Addr) (code : Value) (fp : List Addr) (A : Around) (pn : Pins), Room k A → PTs (gcx X sB HB N' (genEnv scope cl L code builtinsNs X.env) fp A pn) ifs tt)
    (he : ∀ (sB : Shared) (HB : Hp) (cl : List (Str × Addr)) (L : Addr) (code : Value) (fp : List Addr) (A : Around) (pn : Pins), Room k A → PE (gcx X sB HB N' (genEnv scope cl L code builtinsNs X.env) fp A pn) elt te)
    (hs : ∀ v, genFold iter X.env v = pure v := by intro _; rfl) : PGx X k (.GeneratorExp elt [⟨tg, iter, ifs, 0⟩] scope gpos) (tGx P wi g tt te cm own) := by
  refine ⟨fun pins s σ H Th Qe I h => ?_⟩
  have hfree : ∀ y ∈ scope.names, y.2 = .free → ∃ c, X.env.cells.lookup y.1 = some c := fun y hy e => by
    rcases ok.free y hy e with k | k
    · exact I.ok.has _ (.inl k)
    · exact I.ok.has _ (.inr k)
  refine wpAny_GeneratorExp_make ok.co (closure_ok hfree) ok.cell ok.dot ok.kind (by have := hr.dp; omega) ?_ hs
  refine thn (hi.run pins s σ H _ I h) fun xv s1 h1 => thn h1 fun itv s2 h2 => ?_
  obtain ⟨it, fp, tn, J, H2, rfl, I2, T, st2, f2, hP, W, ⟨m0, w0⟩, tr⟩ := h2
  obtain ⟨⟨ps, hPs, ht3⟩, _, _⟩ := I2.hok P _ hP
  have cd : PySem.W.CodeHd s2.heap c P := TB.code.keeps fun b u e => I2.bk b u e
  have fpP : ∀ b ∈ fp, b ≠ P := fun b hb z => by
    have q := (f2 b hb).1
    rw [z, hP] at q; cases q
  have fplt : ∀ b ∈ fp, b < s2.heap.objs.size := fun b hb => let ⟨o, e, _⟩ := T.obj _ _ st2 b hb; Heap.lt_size e
  have cont : ∀ (code : Value) (h3 : Heap) (tk : Nat) (ps' : Array Value), Heap.ExtBut P s2.heap h3 → s2.heap.objs.size ≤ h3.objs.size → h3.get? P = some { cls := .none, data := .fields ps' } → (∃ more, ps' = ps ++ more) → TriplesOk ps'.toList →
      wpAny (model X.prog X.w) X.A (builtinsFor X.env.globals X.env.builtins) (fun bi s₄ =>
        ∀ h', h'.Ns s₄.heap.objs.size (fun y => if y = ".0" then some (.ref it) else none) → Heap.SameBut s₄.heap.objs.size (s₄.heap.push { cls := .type "frame", data := .dict #[] }) h' →
          RdG X pins σ k Th Qe (.ref h'.objs.size) { s₄ with
            gens := s₄.gens.push (.fresh (.compStart (.GeneratorExp elt [⟨tg, iter, ifs, 0⟩] scope gpos) 0 (.ref it) .none (genEnv scope (cloFrom X.env.cells scope.names []) s₄.heap.objs.size code bi X.env))),
            toks := s₄.toks + 1 + 1 + 1,
            heap := h'.push { cls := .type "generator", data := .fields #[.int s₄.gens.size 0, .str "<genexpr>" (s₄.toks + 1), .str (X.env.qual ++ "<genexpr>") (s₄.toks + 1 + 1)] } }) X.xe { s2 with heap := h3, toks := tk } := by
    intro code h3 tk ps' hx hsz hP3 hmore ht4
    obtain ⟨bm, ob, e1, e2, e3, e4, e5, e6, e7, e8⟩ := TB.bm
    refine wpAny_builtinsFor (m := X.mg) (by rw [I2.ok.glob]; exact (I2.mod.glob.keeps I2.bk).extBut hx TB.gP) e1 e2 (hx _ _ e4 (I2.bk _ _ e5)) e6 e7 e8 ?_
    intro h' hn' hs'
    obtain ⟨more, em⟩ := hmore
    subst em
    have J3 : Inv X pins σ H2 { s2 with heap := h3, toks := tk } := by
      have q := I2.write (x := P) (e := P) (o := TabX P) (h' := h3) (t' := tk) (by rw [hP]; trivial) (.inl rfl) (fun b u hb hu => hx b u hb hu) ⟨_, hP3⟩ (tabx_ok hP3 ht4)
      rw [upd_id hP] at q
      exact q
    generalize hgo : ({ cls := .type "generator", data := .fields #[.int s2.gens.size 0, .str "<genexpr>" (tk + 1), .str (X.env.qual ++ "<genexpr>") (tk + 1 + 1)] } : Obj) = go
    have hsz' : h'.objs.size = h3.objs.size + 1 := by
      have q := hs'.1
      rw [q, Heap.size_push]
    have keep' : ∀ b o, h3.get? b = some o → h'.get? b = some o := fun b o e => hs'.extBut b o (Nat.ne_of_lt (Heap.lt_size e)) (Heap.get?_push_of_some _ e)
    have goat : (h'.push go).get? h'.objs.size = some go := by
      subst hgo
      exact Heap.get?_push_size _ rfl
    have fp3 := f2
    refine ⟨h'.objs.size, s2.gens.size, _, go, { s2 with heap := h3, toks := tk }, H2, N', genEnv scope (cloFrom X.env.cells scope.names []) h3.objs.size code builtinsNs X.env, fp, captS cm σ, rfl, J3, fun b hb => ⟨(f2 b hb).2.2.2.1, (f2 b hb).2.1, (f2 b hb).2.2.2.2.1, (f2 b hb).2.2.2.2.2⟩, ?_, ?_, fun h e => ?_, goat, Array.getElem?_push_size .., rfl, ?_, fun b o e => ?_, fun A s2' Ss Gh pl hrA hfr hSs hk2 hos2 hb2 hpl hgh => ?_⟩
    · show h3.objs.size < h'.objs.size
      omega
    · show h'.objs.size < (h'.push _).objs.size
      rw [Heap.size_push]; exact Nat.lt_succ_self _
    · subst hgo
      exact ⟨_, _, _, e, rfl, rfl, rfl⟩
    · exact AllBare.push I2.bare rfl
    · exact Heap.get?_push_of_some _ (keep' b o e)
    · have keep2 : ∀ b o, h3.get? b = some o → s2'.heap.get? b = some o := fun b o e => hk2 b o (Heap.get?_push_of_some _ (keep' b o e))
      have hpins : ∀ p ∈ [(h'.objs.size, go)] ++ pl, s2'.heap.get? p.1 = some p.2 ∧ h3.objs.size < p.1 ∧ ∀ v, p.2.data ≠ .cell v := fun p hp => by
        rcases List.mem_append.mp hp with hp | hp
        · rw [List.mem_singleton.mp hp]
          refine ⟨hk2 h'.objs.size go ?_, by show h3.objs.size < h'.objs.size; omega, fun v q => by subst hgo; cases q⟩
          exact goat
        · have hS : p.1 ∈ Ss := by rw [← hpl.ad]; exact List.mem_map.mpr ⟨p, hp, rfl⟩
          have q := hSs _ hS
          have q2 : (h'.push go).objs.size ≤ p.1 := by subst hgo; exact q
          rw [Heap.size_push] at q2
          refine ⟨(hpl.at_ p hp).1, ?_, (hpl.at_ p hp).2⟩
          have q3 : h'.objs.size < p.1 := Nat.lt_of_succ_le q2
          rw [hsz'] at q3
          exact Nat.lt_of_succ_lt q3
      have IG := gen_start (code := code) (cm := cm) (N' := N') (fp := fp) J3 ok (fun b hb => ⟨fp3 b hb, Nat.lt_of_lt_of_le (fplt b hb) hsz⟩) (A := A.deeper (genEnv scope (cloFrom X.env.cells scope.names []) h3.objs.size code builtinsNs X.env)) hrA.hd
        (by show A.frames.map _ = _; rw [hfr]; rfl) (s2 := s2') (m0 := fun y => if y = ".0" then some (.ref it) else none) ((hn'.push _).keeps hk2) keep2 hos2 hb2 hpins
      have hSlt : ∀ b ∈ Ss, h'.objs.size < b := fun b hb => by
        have q := hSs b hb
        have q2 : (h'.push go).objs.size ≤ b := by subst hgo; exact q
        rw [Heap.size_push] at q2
        exact Nat.lt_of_succ_le q2
      have hrD := hrA.deeper (genEnv scope (cloFrom X.env.cells scope.names []) h3.objs.size code builtinsNs X.env)
      have cmL : ∀ {y c}, (cloFrom X.env.cells scope.names []).lookup y = some c → X.env.cells.lookup y = some c := fun {y c} hm => by
        rcases cloFrom_mem (PySem.mem_of_lookup hm) with hm | ⟨h1, rfl⟩
        · cases hm
        · obtain ⟨c, hc⟩ := hfree _ h1 rfl
          rw [hc] <;> rfl
      refine seg_start (G := gcx X { s2 with heap := h3, toks := tk } H2 N' (genEnv scope (cloFrom X.env.cells scope.names []) h3.objs.size code builtinsNs X.env) fp (A.deeper (genEnv scope (cloFrom X.env.cells scope.names []) h3.objs.size code builtinsNs X.env)) [(h'.objs.size, go)]) (C := ⟨Ss, Gh, Th, Qe⟩) (own := own) (W := W) rfl rfl rfl rfl ok.co T (hg _ _ _ _ _ _ _ _ hrD) (ht _ _ _ _ _ _ _ _ hrD) (he _ _ _ _ _ _ _ _ hrD) (fun p hp z => ?_) (fun b hb => ⟨?_, ?_, fun x c e z => ?_⟩) (fun b hb => ⟨?_, ?_, .inl hb, fun x c e => ?_, fun p hp => ?_, fun z => ?_⟩) tr w0 hpl hgh IG (T.keep _ _ _ st2 fun b hb o e => ?_) (fun b hb => (fp3 b hb).1) (fun _ _ => rfl)
      · rw [List.mem_singleton.mp hp] at z
        exact Nat.lt_irrefl _ (hSlt _ z)
      · exact Nat.le_of_lt (Nat.lt_of_le_of_lt (by omega : h3.objs.size ≤ h'.objs.size) (hSlt b hb))
      · exact Nat.ne_of_gt (Nat.lt_of_le_of_lt (by omega : h3.objs.size ≤ h'.objs.size) (hSlt b hb))
      · obtain ⟨w, q⟩ := I2.cell x c (cmL e)
        have q1 := q.lt
        rw [z] at q1
        exact Nat.lt_irrefl _ (Nat.lt_trans (Nat.lt_of_lt_of_le q1 hsz) (Nat.lt_of_le_of_lt (by omega : h3.objs.size ≤ h'.objs.size) (hSlt b hb)))
      · exact Nat.ne_of_lt (Nat.lt_of_lt_of_le (fplt b hb) hsz)
      · intro z
        rcases List.mem_cons.mp (J3.stkSub b z) with z | z
        · exact (fp3 b hb).2.1 z
        · exact (fp3 b hb).2.2.1 z
      · exact (f2 b hb).2.2.2.2.1 x c (cmL e)
      · rw [List.mem_singleton.mp hp]
        exact Nat.ne_of_gt (Nat.lt_of_lt_of_le (fplt b hb) (by omega : s2.heap.objs.size ≤ h'.objs.size))
      · exact Nat.lt_irrefl _ (Nat.lt_trans (Nat.lt_of_lt_of_le (fplt b hb) (by omega : s2.heap.objs.size ≤ h'.objs.size)) (hSlt b z))
      · exact keep2 b o (hx b o (fpP b hb) e)
  refine ⟨I2.nolimit, ?_⟩
  cases hf : codeAmong gpos ps.toList with
  | none =>
    refine wpAny_genexprCodeX hcode (cd.code hPs ht3) (cd.tab hPs) hf fun c' h' tk hx hge hlt hco' _ htab' _ => ?_
    obtain ⟨o1, vs, f1, tf, fl, tg, inF, tx, tt, op, _, _, _, _, _, _, _, _, _, htr, _⟩ := hco'
    exact cont _ h' tk _ hx (Nat.le_trans hge (Nat.le_of_lt hlt)) htab'.2 ⟨_, rfl⟩ htr
  | some cv =>
    refine wpAny_genexprCode_hit hcode (cd.code hPs ht3) hf ?_
    exact cont cv s2.heap s2.toks ps (Heap.ExtBut.refl _ _) (Nat.le_refl _) hPs ⟨#[], by simp⟩ ht3
end GX
set_option Elab.async false
set_option linter.all false
set_option maxRecDepth 100000
set_option maxHeartbeats 4000000
namespace GX
open PySem PySem.Spec PyProof.Rows L2 GenW

/-- the generator g sleeps (or has not begun), n items at most are to come -/
def Susp (G : Cx) (C : Cons) (σ0 : L2.St) (A : Around) (g n : Nat) (s : Shared) : Prop :=
  ∃ gs, s.gens[g]? = some gs ∧ gs.Goes (model G.prog G.w) A.in1 (GR G C σ0) (GY G C σ0) n (.send .none) (s.setGen g .running)

section
variable {G : Cx} {C : Cons} {σ0 : L2.St} {A : Around} {a : Addr} {g n : Nat} {go : Obj} {s : Shared} {E : Value → Shared → Prop} {Q : Option Value → Shared → Prop}
theorem gx_next (hh : A.handled = none) (hd : A.depth < recursionLimit) (hl : s.heap.NoLimit) (hg : s.heap.IsGen a g) (hS : Susp G C σ0 A g n s)
    (hY : ∀ ys x v pl H s1, n - 1 + 1 + ys.length = sizeLine → RelV x v → PinsAt C.Ss pl s1.heap → C.Gh ys pl → Inv G pl σ0 H s1 → C.Th ys x H → (∀ b ∈ C.Ss, s1.heap.get? b = s.heap.get? b) →
      (∀ s' pl', Sleeps C.Ss s1 s' → s'.gens = s1.gens → PinsAt C.Ss pl' s'.heap → C.Gh (ys ++ [x]) pl' → ∃ m, n = m + 1 ∧ Susp G C σ0 A g m s') → Q (some v) s1)
    (hP : ∀ s1, GP G C σ0 s s1 → Q none s1) : wpAny (model G.prog G.w) A (pyNext (.ref a)) Q E s := by
  obtain ⟨gs, hgs, hgo⟩ := hS
  have hgl : g < s.gens.size := (Array.getElem?_eq_some_iff.mp hgs).1
  refine wpAny_gsz (n := g + 1) hgl ?_
  refine wpAny_pyNext_genexpQ (P := fun n s₀ s₁ => GP G C σ0 s₀ s₁) hh hl hd hg hgs hgo (fun v s₁ gs' hbare hv hsz => ?_) (fun s₁ hp h' hk hsz => ?_)
  · obtain ⟨ys, x, pl, H, h1, h2, h3, h4, h5, h6, h8, h7⟩ := hv
    have hsz1 : g < s₁.gens.size := by
      have q : (s₁.setGen g gs').gens.size = s₁.gens.size := setGen_size _ _ _
      have hsz' : g + 1 ≤ (s₁.setGen g gs').gens.size := hsz
      omega
    refine hY ys x v pl H _ h1 h2 h3 h4 (inv_gens h5 hbare) h6 h8 fun s' pl' hsl hge hpl' hgh' => ?_
    have hsl2 : Sleeps C.Ss s₁ (s'.setGen g .running) := ⟨hsl.os, allBare_setGen hsl.bare rfl, hsl.keep⟩
    have q := h7 (s'.setGen g .running) pl' hsl2 hpl' hgh'
    cases n with
    | zero => exact False.elim q
    | succ m =>
      refine ⟨m, rfl, gs', ?_, q⟩
      rw [hge]
      exact setGen_at hsz1
  · obtain ⟨ys, pl, H, h1, h2, h3, h4, h5, h6⟩ := hp
    have hp2 : PinsAt C.Ss pl h' := ⟨h2.ad, fun p hp => ⟨hk _ _ (h2.at_ p hp).1, (h2.at_ p hp).2⟩⟩
    have I1 := inv_gens (g := g) (x := .finished) h4 rfl
    exact hP _ ⟨ys, pl, H, h1, hp2, h3, I1.kept (t' := s₁.toks) hk, h5, fun b hb => (h2.same hp2 b hb).trans (h6 b hb)⟩
end

/-- a generator just made, now drained: at its first resumption -/
theorem susp_of {X : Cx} {A : Around} {C : Cons} {sB : Shared} {HB : Hp} {N' : List Str} {cenv : Env} {fp : List Addr} {σ0 : L2.St} {a g : Nat} {go : Obj} {c : Code} {s2 : Shared} (hgs : s2.gens[g]? = some (.fresh c))
    (h : Seg (model X.prog X.w) A.in1 (GR (gcx X sB HB N' cenv fp (A.in1.deeper cenv) [(a, go)]) C σ0) (GY (gcx X sB HB N' cenv fp (A.in1.deeper cenv) [(a, go)]) C σ0) sizeLine (s2.setGen g .running) c ((model X.prog X.w).den c) [] (s2.setGen g .running)) :
    Susp (gcx X sB HB N' cenv fp (A.in1.deeper cenv) [(a, go)]) C σ0 A g sizeLine s2 := ⟨_, hgs, rfl, h⟩

section
variable {X : Cx} {pins : Pins} {σ : L2.St} {HB H : Hp} {sB s' : Shared} {N' : List Str} {cenv : Env} {fp : List Addr} {σ0 : L2.St} {A : Around} {pn pl : Pins}
/-- back outside -/
theorem inv_back (I : Inv X pins σ HB sB) (hex : ExOk X pins fp) (J : Inv (gcx X sB HB N' cenv fp A pn) pl σ0 H s') : Inv X pins σ H s' :=
  I.call' (ch := fp) J.os J.base J.hok J.bare hex
end

/-! ### list.extend's loop -/
def GhL (S : Addr) : List V → Pins → Prop := fun ys pl => ∃ (acc : Array Value) (c : Nat), pl = [(S, lstObj acc c)] ∧ Vals ys acc.toList
theorem ghl_at {S : Addr} {ys : List V} {pl : Pins} {h : Heap} (g : GhL S ys pl) (p : PinsAt [S] pl h) : ∃ (acc : Array Value) (c : Nat), h.get? S = some (lstObj acc c) ∧ Vals ys acc.toList := by
  obtain ⟨acc, c, rfl, r⟩ := g
  exact ⟨acc, c, (p.at_ _ (List.mem_singleton.mpr rfl)).1, r⟩
theorem drainL {G : Cx} {Th : List V → V → Hp → Prop} {Qe : List V → Hp → Prop} {σ0 : L2.St} {A : Around} {a S : Addr} {g : Nat} {go : Obj} {res : Value} {R : Result → Shared → Prop} (hh : A.handled = none) (hd : A.depth < recursionLimit) (hpa : (a, go) ∈ G.pn) (hgo : ∀ h : Heap, h.get? a = some go → h.IsGen a g)
    (hSa : S ≠ a) (hSc : S ≠ cStatics)
    (hend : ∀ s' ys acc c pl H, ys.length ≤ sizeLine → s'.heap.get? S = some (lstObj acc c) → Vals ys acc.toList → Inv G pl σ0 H s' → H S = none → Qe ys H → R (.ok (.ret res)) s') :
    ∀ (n : Nat) (s : Shared), s.heap.NoLimit → s.heap.IsGen a g → Susp G ⟨[S], GhL S, Th, Qe⟩ σ0 A.in1 g n s → codeAny (model G.prog G.w) A (.builtin "list.extend.loop" ⟨[.ref S, .ref a, res], []⟩) R s := by
  intro n
  induction n using Nat.strongRecOn with
  | ind n ih =>
    intro s hl hg hS
    refine codeAny_builtin F.entry_extend_loop ?_
    rw [Around.under_plainId F.plain_extend_loop _]
    show wpAny _ A.in1 (pyNext (.ref a) >>= _) _ _ s
    refine wpAny_bind (gx_next (A := A.in1) hh hd hl hg hS (fun ys x v pl H s1 h1 h2 h3 h4 h5 h6 _ h7 => ?_) fun s1 hp => ?_)
    · obtain ⟨acc, c, hS1, hv⟩ := ghl_at h4 h3
      have hlen : acc.toList.length = ys.length := hv.length.symm
      have hacc : acc.size < sizeLine := by
        have e : acc.toList.length = acc.size := by simp
        omega
      show wpAny _ A.in1 (updateSeq S (·.push v) >>= _) _ _ _
      refine wpAny_bind ?_
      refine wpAny_updateSeq hS1 rfl (wpAny_pure ⟨plainId_quiet F.plain_extend_loop _, ?_⟩) (Nat.le_of_lt hacc) (by show (acc.push v).size ≤ sizeLine + 1; rw [Array.size_push]; omega)
      have keep3 : ∀ b o, b ≠ S → s1.heap.get? b = some o → (s1.heap.update S (Obj.mapSeq (·.push v))).get? b = some o := fun b o hbS e => (Heap.get?_update_other _ _ (Ne.symm hbS)).trans e
      have hSn : ∃ c', (s1.heap.update S (Obj.mapSeq (·.push v))).get? S = some (lstObj (acc.push v) c') := ⟨_, Heap.get?_update_self _ hS1 rfl⟩
      obtain ⟨c', hSn⟩ := hSn
      obtain ⟨m, hm, hS2⟩ := h7 { s1 with heap := s1.heap.update S (Obj.mapSeq (·.push v)) } [(S, lstObj (acc.push v) c')] ⟨rfl, h5.bare, fun b o hb e => keep3 b o (fun z => hb (by rw [z]; exact List.mem_singleton.mpr rfl)) e⟩ rfl
        ⟨rfl, fun p hp => by rw [List.mem_singleton.mp hp]; exact ⟨hSn, fun v q => by cases q⟩⟩ ⟨_, _, rfl, by rw [Array.toList_push]; exact hv.append (.cons h2 .nil)⟩
      refine ih m (by omega) _ ?_ ?_ hS2
      · obtain ⟨mc, hns, hnn⟩ := h5.nolimit
        exact ⟨mc, hns.at' fun o e => keep3 _ o (Ne.symm hSc) e, hnn⟩
      · exact hgo _ (keep3 a go (Ne.symm hSa) (h5.pin (a, go) (List.mem_append_left _ hpa)).1)
    · obtain ⟨ys, pl, H, q1, q2, q3, q4, q5, _⟩ := hp
      obtain ⟨acc, c, hS1, hv⟩ := ghl_at q3 q2
      have hn : H S = none := by
        obtain ⟨acc', c', e, _⟩ := q3
        exact (q4.pin (S, lstObj acc' c') (List.mem_append_right _ (by rw [e]; exact List.mem_singleton.mpr rfl))).2.1
      exact wpAny_pure (hend _ ys acc c pl H q1 hS1 hv q4 hn q5)

/-- collect(g): the items in a list at S, untracked -/
theorem collect_gx {X : Cx} {pins : Pins} {σ : L2.St} {k : Nat} {Th : List V → V → Hp → Prop} {Qe : List V → Hp → Prop} {u : Value} {s : Shared} {A : Around} {Q : List Value → Shared → Prop} {E : Value → Shared → Prop} (hr : Room (k + 4) A) (hfr : A.frames = some X.stack)
    (hTh : ∀ ys x H, Th ys x H) (h : RdG X pins σ k Th Qe u s) (hQ : ∀ s' its ys H, ys.length ≤ sizeLine → Vals ys its → Inv X pins σ H s' → Qe ys H → Q its s') : wpAny (model X.prog X.w) A (collect u) Q E s := by
  obtain ⟨a, g, c, go, sB, HB, N', cenv, fp, σ0, rfl, I, hex, ha1, ha2, hgo, hat, hgs, hos, hb, hkp, run⟩ := h
  have hsB : sB.heap.NoLimit := I.nolimit
  have hcl : cStatics < sB.heap.objs.size := let ⟨_, hn, _⟩ := hsB; hn.lt
  have hlim : s.heap.NoLimit := hsB.keeps hkp
  have hSa : s.heap.objs.size ≠ a := Nat.ne_of_gt ha2
  have hSc : s.heap.objs.size ≠ cStatics := Nat.ne_of_gt (Nat.lt_trans hcl (Nat.lt_trans ha1 ha2))
  unfold collect
  refine wpAny_bind (wpAny_runValue (codeAny_builtin F.entry_proto_collect ?_))
  rw [Around.under_plainId F.plain_proto_collect _]
  show wpAny _ A.in1 (newList [] >>= fun l => again (.builtin "list.__iadd__" ⟨[l, .ref a], []⟩)) _ _ s
  refine wpAny_bind (wpAny_newObj_type ?_)
  refine wpAny_pure ⟨plainId_quiet F.plain_list_iadd _, codeAny_builtin F.entry_list_iadd ?_⟩
  rw [Around.under_plainId F.plain_list_iadd _]
  have hS₁ : (s.heap.push { cls := .type "list", data := .seq ([] : List Value).toArray }).get? s.heap.objs.size = some { cls := .type "list", data := .seq ([] : List Value).toArray } := Heap.get?_push_size _ rfl
  have k1 : ∀ b o, s.heap.get? b = some o → (s.heap.push { cls := .type "list", data := .seq ([] : List Value).toArray }).get? b = some o := fun b o e => Heap.get?_push_of_some _ e
  have gty : (s.heap.push { cls := .type "list", data := .seq ([] : List Value).toArray }).IsGen a g := hgo _ (k1 _ _ hat)
  show wpAny _ A.in1 (Builtin.List.listExtendWith (.ref s.heap.objs.size) (.ref a) (.ref s.heap.objs.size)) _ _ _
  unfold Builtin.List.listExtendWith
  refine wpAny_bind (wpAny_typeOf (Heap.IsGen.typeIs (s := { s with heap := _ }) gty) ?_)
  have h1 : Builtin.List.listSameRef (.ref s.heap.objs.size) (.ref a) = false := by simp [Builtin.List.listSameRef, hSa]
  have h2 : (Value.type "generator" == Value.type "list") = false := by decide
  have h3 : (Value.type "generator" == Value.type "tuple") = false := by decide
  simp only [h1, h2, h3, Bool.or_false, Bool.false_eq_true, if_false]
  refine wpAny_bind (wpAny_pyIter_gen (s := { s with heap := _ }) gty ?_)
  refine wpAny_bind (wpAny_holding ?_)
  unfold Builtin.List.listLengthHint
  refine wpAny_bind (wpAny_specialOf (Heap.IsGen.typeIs (s := { s with heap := _ }) gty) F.gen_no_len ?_)
  show wpAny _ A.in1 (specialOf (Value.ref a) (Str.ofString "__length_hint__") >>= _) _ _ _
  refine wpAny_bind (wpAny_specialOf (Heap.IsGen.typeIs (s := { s with heap := _ }) gty) F.gen_no_hint ?_)
  refine wpAny_pure ?_
  show wpAny _ A.in1 (rule "list.extend.makes-room" >>= fun _ => Builtin.List.listTouch (.ref s.heap.objs.size) >>= fun _ =>
    again (.builtin "list.extend.loop" ⟨[.ref s.heap.objs.size, .ref a, .ref s.heap.objs.size], []⟩)) _ _ _
  refine wpAny_bind (wpAny_rule ?_)
  refine wpAny_bind ?_
  show wpAny _ A.in1 (updateSeq s.heap.objs.size (·.push .none) >>= fun _ => updateSeq s.heap.objs.size (·.pop)) _ _ _
  refine wpAny_bind (wpAny_updateSeq hS₁ rfl ?_)
  have hS3 := Heap.get?_update_self (Obj.mapSeq (·.push Value.none)) hS₁ rfl
  refine wpAny_updateSeq (hz := by seq_fits) hS3 rfl ?_
  have hS4 := Heap.get?_update_self (Obj.mapSeq (·.pop)) hS3 rfl
  have up : ∀ (h : Heap) (f : Obj → Obj), (∀ b o, s.heap.get? b = some o → h.get? b = some o) → ∀ b o, s.heap.get? b = some o → (h.update s.heap.objs.size f).get? b = some o := fun h f q b o e =>
    (Heap.get?_update_other _ _ (Ne.symm (Nat.ne_of_lt (Heap.lt_size e)))).trans (q b o e)
  have k4 := up _ (Obj.mapSeq (·.pop)) (up _ (Obj.mapSeq (·.push Value.none)) k1)
  refine wpAny_pure ⟨plainId_quiet F.plain_extend_loop _, ?_⟩
  have hroom : Room (k + 1) A.in1.in1 := ⟨hr.hd, by have := hr.dp; show A.depth + 3 * (k + 1) + 5 < _; omega, by have := hr.un; show A.units + 1 + 1 + 16 * (k + 1) + 200 < _; omega⟩
  refine drainL (G := gcx X sB HB N' cenv fp (A.in1.in1.deeper cenv) [(a, go)]) (Th := Th) (Qe := Qe) (σ0 := σ0) (go := go) hr.hd (by have := hr.dp; show A.depth < _; omega) (List.mem_singleton.mpr rfl) hgo hSa hSc
    (fun s' ys acc c pl H q1 q2 q3 q4 q5 q6 => ?_) sizeLine _ (hlim.keeps k4) (hgo _ (k4 _ _ hat)) (susp_of hgs (run A.in1.in1 _ [s.heap.objs.size] (GhL s.heap.objs.size) _ hroom hfr (fun b hb => by rw [List.mem_singleton.mp hb]; exact Nat.le_refl _) k4 hos (allBare_setGen (s := { s with heap := _ }) hb rfl)
      ⟨rfl, fun p hp => by rw [List.mem_singleton.mp hp]; exact ⟨hS4, fun v q => by cases q⟩⟩ ⟨#[], _, rfl, .nil⟩))
  show wpAny _ A (load s.heap.objs.size >>= _) _ _ s'
  refine wpAny_bind (wpAny_load q2 ?_)
  exact wpAny_pure (hQ s' acc.toList ys H q1 q3 (inv_back I hex q4) q6)
end GX
set_option Elab.async false
set_option linter.all false
set_option maxRecDepth 100000
set_option maxHeartbeats 4000000
namespace GX
open PySem PySem.Spec PyProof.Rows L2 GenW

theorem boot_sorted' : bootBuiltins "sorted" = some (.builtin "sorted") := by decide +kernel
theorem boot_sum' : bootBuiltins "sum" = some (.builtin "sum") := by decide +kernel
theorem boot_any' : bootBuiltins "any" = some (.builtin "any") := by decide +kernel
theorem boot_all' : bootBuiltins "all" = some (.builtin "all") := by decide +kernel

section
variable {X : Cx} {pins : Pins} {σ : L2.St} {H : Hp} {s : Shared}
theorem inv_A (I : Inv X pins σ H s) {A' : Around} (h1 : A'.handled = X.A.handled) (h2 : A'.frames = X.A.frames) : Inv { X with A := A' } pins σ H s :=
  ⟨⟨I.ok.mod, I.ok.kind, I.ok.glob, I.ok.blt, I.ok.above, I.ok.inj, I.ok.has, I.ok.cab, fun c => h1.trans (I.ok.hd c), h2.trans I.ok.frames, I.ok.stk, I.ok.exf, I.ok.bs, I.ok.bsz, I.ok.noex, I.ok.exfs, I.ok.funs, I.ok.frf⟩, I.os, I.bare, I.base, I.loc, I.cell, I.free, I.freeC, I.pin, I.hok, I.len⟩
theorem inv_A' {A' : Around} (I : Inv { X with A := A' } pins σ H s) (h1 : X.A.handled = A'.handled) (h2 : X.A.frames = A'.frames) : Inv X pins σ H s := inv_A (X := { X with A := A' }) I h1 h2
end

section
variable {X : Cx} {p pos : Pos} {e : Expr} {tg : TGx} {k : Nat}
/-- sorted(g): r is list.sort's rule -/
def tSortedG (tg : TGx) (r : V → List V → Hp → VK → Prop) : TE := fun σ H Q => tg σ H (fun _ _ _ => True) fun ys H1 => ∀ l, H1 l = none → r (.ref l) [] (upd H1 l (.lst ys)) fun _ H2 => Q (.ref l) H2
theorem pe_sortedG {r : V → List V → Hp → VK → Prop} (h : PGx X k e tg) (hs : ∀ A', MtR { X with A := A' } "list.sort" r) (hr : Room (k + 5) X.A) (hg : Gl X "sorted") (hm : X.mg "sorted" = none)
    (he : starEach [e] X.env = (false, eval e X.env) :: starEach [] X.env := by rfl) : PE X (.Call (.Name "sorted" p) [e] [] pos) (tSortedG tg r) := by
  refine ⟨fun pins s σ H Q I hq => ?_⟩
  refine wpAny_Call_Name_kw (ld_blt I hg hm boot_sorted' ?_)
  refine PyProof.Rows.callWith_builtin1 ?_ he (by rfl)
  rw [he]
  show wpAny _ _ (spliced ((false, eval e X.env) :: backTo pos (starEach [] X.env))) _ _ s
  refine Calls.spliced_cons (thn (h.run pins s σ H _ _ I hq) fun u s1 hG => ?_)
  refine Calls.spliced_nil ?_
  refine Calls.call_function_entry kind_sorted plain_sorted entry_sorted (args_sorted1 _) ?_
  unfold Builtin.«sorted»
  refine wpAny_bind (m := checkCount "sorted" 1 1 _) (wpAny_pure ?_)
  have hr1 : Room (k + 4) X.A.in1 := ⟨hr.hd, by have := hr.dp; show X.A.depth + 3 * (k + 4) + 5 < _; omega, by have := hr.un; show X.A.units + 1 + 16 * (k + 4) + 200 < _; omega⟩
  refine wpAny_bind (collect_gx (pins := pins) (σ := σ) hr1 I.ok.frames (fun _ _ _ => trivial) hG fun s' its ys H1 hlen hv I1 hq1 => ?_)
  have hil : its.length ≤ sizeLine := by rw [← hv.length]; exact hlen
  refine wpAny_bind (wpAny_newList ?_ hil)
  have fresh : H1 s'.heap.objs.size = none := I1.hok.fresh (Nat.le_refl _)
  have I2 : Inv X pins σ (upd H1 s'.heap.objs.size (.lst ys)) { s' with heap := s'.heap.push (seqObj "list" its.toArray 0) } :=
    I1.laid (t' := s'.toks) (fun _ _ e => Heap.get?_push_of_some _ e) (Nat.le_refl _) ⟨hlen, its, 0, hv, Heap.get?_push_size _ rfl⟩
  refine wpAny_bind (wpAny_holding ?_)
  refine wpAny_mono (hs X.A.in1 pins _ σ _ (.ref s'.heap.objs.size) [] (.ref s'.heap.objs.size) [] _ (inv_A (A' := X.A.in1) I2 rfl rfl) rfl .nil (hq1 _ fresh)) (fun v s3 h3 => ?_) fun _ _ e => e
  obtain ⟨v', H3, I3, r3, q3⟩ := h3
  exact wpAny_pure ⟨_, rfl, .ref s'.heap.objs.size, H3, inv_A' I3 rfl rfl, rfl, q3⟩

/-! ### sum -/
def vsum : List V → Int
  | [] => 0
  | .int i :: r => i + vsum r
  | _ :: r => vsum r
theorem vsum_append (xs ys : List V) : vsum (xs ++ ys) = vsum xs + vsum ys := by
  induction xs with
  | nil => simp [vsum]
  | cons v r ih =>
    cases v <;> simp [vsum, ih] <;> omega
theorem vsum_ints (is : List Int) : vsum (is.map V.int) = is.sum := by
  induction is with
  | nil => rfl
  | cons i r ih => simp [vsum, ih]
def GhS (S : Addr) : List V → Pins → Prop := fun ys pl => ∃ (t : Tok) (c : Nat), pl = [(S, lstObj #[.int (vsum ys) t] c)]
def ThS : List V → V → Hp → Prop := fun ys x _ => ∃ j, x = .int j ∧ InLong j ∧ InLong (vsum ys + j)
theorem drainS {G : Cx} {Qe : List V → Hp → Prop} {σ0 : L2.St} {A : Around} {a S : Addr} {g : Nat} {go : Obj} {R : Result → Shared → Prop} (hh : A.handled = none) (hd : A.depth < recursionLimit) (hpa : (a, go) ∈ G.pn) (hgo : ∀ h : Heap, h.get? a = some go → h.IsGen a g)
    (hSa : S ≠ a) (hSc : S ≠ cStatics)
    (hend : ∀ s' ys t pl H, Inv G pl σ0 H s' → Qe ys H → R (.ok (.ret (.int (vsum ys) t))) s') :
    ∀ (n : Nat) (s : Shared) (z : Int) (t : Tok) (c : Nat), s.heap.NoLimit → s.heap.IsGen a g → s.heap.get? S = some (lstObj #[.int z t] c) → Susp G ⟨[S], GhS S, ThS, Qe⟩ σ0 A.in1 g n s → codeAny (model G.prog G.w) A (.builtin "sum.loop" ⟨[.ref a, .ref S, rawInt 0, rawInt 0], []⟩) R s := by
  intro n
  induction n using Nat.strongRecOn with
  | ind n ih =>
    intro s z t c hl hg hS0 hS
    refine codeAny_builtin F.entry_sum_loop ?_
    rw [Around.under_plainId F.plain_sum_loop _]
    show wpAny _ A.in1 (seqItems? (.ref S) >>= _) _ _ s
    refine wpAny_bind (wpAny_seqItems hS0 rfl ?_)
    show wpAny _ A.in1 (tryCatch (pyNext (.ref a)) _ >>= _) _ _ s
    have hS0' := hS0
    refine wpAny_bind (wpAny_tryCatch ?_)
    refine gx_next (A := A.in1) hh hd hl hg hS (fun ys x v pl H s1 h1 h2 h3 h4 h5 h6 h8 h7 => ?_) fun s1 hp => ?_
    · obtain ⟨t', c', rfl⟩ := h4
      have e1 : s1.heap.get? S = some (lstObj #[.int (vsum ys) t'] c') := (h3.at_ _ (List.mem_singleton.mpr rfl)).1
      have e2 := e1.symm.trans ((h8 S (List.mem_singleton.mpr rfl)).trans hS0)
      obtain ⟨j, rfl, ⟨f1, f2⟩, f3, f4⟩ := h6
      obtain ⟨tv, rfl⟩ := (show ∃ t, v = Value.int j t from h2)
      have ez : z = vsum ys := by
        have e3 : (#[Value.int (vsum ys) t'] : Array Value) = #[.int z t] := by
          have := congrArg Obj.data (Option.some.inj e2)
          injection this
        have e4 := congrArg Array.toList e3
        simp only [List.cons.injEq, Value.int.injEq, and_true] at e4
        exact e4.1.symm
      subst ez
      have hc : ((decide (-(2 ^ 63) ≤ j) && decide (j < 2 ^ 63)) && (decide (-(2 ^ 63) ≤ vsum ys + j) && decide (vsum ys + j < 2 ^ 63))) = true := by
        simp only [Bool.and_eq_true, decide_eq_true_eq]
        exact ⟨⟨f1, f2⟩, f3, f4⟩
      show wpAny _ A.in1 (if (_ : Bool) = true then (mkInt (vsum ys + j) >>= _) else _) _ _ _
      split
      · refine wpAny_bind (wpAny_mkInt ?_)
        show wpAny _ A.in1 (updateSeq S (fun _ => #[.int (vsum ys + j) s1.toks]) >>= _) _ _ _
        refine wpAny_bind ?_
        refine wpAny_updateSeq e1 rfl (wpAny_pure ⟨plainId_quiet F.plain_sum_loop _, ?_⟩)
        have keep3 : ∀ b o, b ≠ S → s1.heap.get? b = some o → (s1.heap.update S (Obj.mapSeq (fun _ => #[.int (vsum ys + j) s1.toks]))).get? b = some o := fun b o hbS e => (Heap.get?_update_other _ _ (Ne.symm hbS)).trans e
        obtain ⟨c2, hSn⟩ : ∃ c2, (s1.heap.update S (Obj.mapSeq (fun _ => #[.int (vsum ys + j) s1.toks]))).get? S = some (lstObj #[.int (vsum ys + j) s1.toks] c2) := ⟨_, Heap.get?_update_self _ e1 rfl⟩
        obtain ⟨m, hm, hS2⟩ := h7 { s1 with heap := s1.heap.update S (Obj.mapSeq (fun _ => #[.int (vsum ys + j) s1.toks])), toks := s1.toks + 1 } [(S, lstObj #[.int (vsum ys + j) s1.toks] c2)] ⟨rfl, h5.bare, fun b o hb e => keep3 b o (fun z => hb (by rw [z]; exact List.mem_singleton.mpr rfl)) e⟩ rfl
          ⟨rfl, fun p hp => by rw [List.mem_singleton.mp hp]; exact ⟨hSn, fun v q => by cases q⟩⟩ ⟨s1.toks, c2, by rw [vsum_append]; simp [vsum]⟩
        refine ih m (by omega) _ (vsum ys + j) s1.toks c2 ?_ ?_ hSn hS2
        · obtain ⟨mc, hns, hnn⟩ := h5.nolimit
          exact ⟨mc, hns.at' fun o e => keep3 _ o (Ne.symm hSc) e, hnn⟩
        · exact hgo _ (keep3 a go (Ne.symm hSa) (h5.pin (a, go) (List.mem_append_left _ hpa)).1)
      · rename_i hneg
        exact absurd hc hneg
    · obtain ⟨ys, pl, H, q1, q2, ⟨t', c', rfl⟩, q4, q5, q6⟩ := hp
      have e1 : s1.heap.get? S = some (lstObj #[.int (vsum ys) t'] c') := (q2.at_ _ (List.mem_singleton.mpr rfl)).1
      have e2 := e1.symm.trans ((q6 S (List.mem_singleton.mpr rfl)).trans hS0)
      have ez : z = vsum ys := by
        have e3 : (#[Value.int (vsum ys) t'] : Array Value) = #[.int z t] := by
          have := congrArg Obj.data (Option.some.inj e2)
          injection this
        have e4 := congrArg Array.toList e3
        simp only [List.cons.injEq, Value.int.injEq, and_true] at e4
        exact e4.1.symm
      subst ez
      exact wpAny_pure (hend s1 ys t _ H q4 q5)
def tSumG (tg : TGx) : TE := fun σ H Q => tg σ H ThS fun ys H1 => Q (.int (vsum ys)) H1
theorem pe_sumG (h : PGx X k e tg) (hr : Room (k + 4) X.A) (hg : Gl X "sum") (hm : X.mg "sum" = none)
    (he : starEach [e] X.env = (false, eval e X.env) :: starEach [] X.env := by rfl) : PE X (.Call (.Name "sum" p) [e] [] pos) (tSumG tg) := by
  refine ⟨fun pins s σ H Q I hq => ?_⟩
  refine wpAny_Call_Name_kw (ld_blt I hg hm boot_sum' ?_)
  refine PyProof.Rows.callWith_builtin1 ?_ he (by rfl)
  rw [he]
  show wpAny _ _ (spliced ((false, eval e X.env) :: backTo pos (starEach [] X.env))) _ _ s
  refine Calls.spliced_cons (thn (h.run pins s σ H _ _ I hq) fun u s1 hG => ?_)
  refine Calls.spliced_nil ?_
  obtain ⟨a, g, c, go, sB, HB, N', cenv, fp, σ0, rfl, I1, hex, ha1, ha2, hgo, hat, hgs, hos, hb, hkp, run⟩ := hG
  have hsB : sB.heap.NoLimit := I1.nolimit
  have hcl : cStatics < sB.heap.objs.size := let ⟨_, hn, _⟩ := hsB; hn.lt
  have hlim : s1.heap.NoLimit := hsB.keeps hkp
  refine call_function_tree F.kind_sum F.plain_sum F.entry_sum (F.args_sum1 _) ?_
  unfold Builtin.«sum»
  simp only [List.length_cons, List.length_nil]
  rw [if_neg (by decide)]
  refine wpAny_bind (wpAny_of_eq (show Builtin.Builtins.bindParams "sum" ["start"] 0 { } = pure [none] from rfl) ?_)
  refine wpAny_bind (wpAny_pyIter_gen (hgo _ hat) ?_)
  refine wpAny_bind (wpAny_mkInt ?_)
  refine wpAny_bind (wpAny_pure ?_)
  simp only [List.forIn_cons, List.forIn_nil]
  refine wpAny_bind (wpAny_bind (wpAny_bind (wpAny_isInstance (T := "int") (b := false) (typeIs_int _ _ _) PySem.sub_int_str ?_)))
  simp only [Bool.false_eq_true, if_false]
  refine wpAny_pure (wpAny_bind (wpAny_bind (wpAny_isInstance (T := "int") (b := false) (typeIs_int _ _ _) PySem.sub_int_bytes ?_)))
  simp only [Bool.false_eq_true, if_false]
  refine wpAny_pure (wpAny_bind (wpAny_bind (wpAny_isInstance (T := "int") (b := false) (typeIs_int _ _ _) PySem.sub_int_bytearray ?_)))
  simp only [Bool.false_eq_true, if_false]
  refine wpAny_pure (wpAny_pure ?_)
  refine wpAny_bind (wpAny_newObj_type ?_)
  have k1 : ∀ (o : Obj) b u, s1.heap.get? b = some u → (s1.heap.push o).get? b = some u := fun o b u e => Heap.get?_push_of_some _ e
  have hroom : Room (k + 1) X.A.in1.in1 := ⟨hr.hd, by have := hr.dp; show X.A.depth + 3 * (k + 1) + 5 < _; omega, by have := hr.un; show X.A.units + 1 + 1 + 16 * (k + 1) + 200 < _; omega⟩
  have hS0 : ∀ t, (s1.heap.push { cls := .type "list", data := .seq ([Value.int 0 t] : List Value).toArray }).get? s1.heap.objs.size = some (lstObj #[.int (vsum []) t] 0) := fun t => Heap.get?_push_size _ rfl
  refine wpAny_pure ⟨plainId_quiet F.plain_sum_loop _, ?_⟩
  refine drainS (G := gcx X sB HB N' cenv fp (X.A.in1.in1.deeper cenv) [(a, go)]) (Qe := fun ys H1 => Q (V.int (vsum ys)) H1) (σ0 := σ0) (A := X.A) (go := go) hr.hd (by have := hr.dp; show X.A.depth < _; omega) (List.mem_singleton.mpr rfl) hgo (Nat.ne_of_gt ha2) (Nat.ne_of_gt (Nat.lt_trans hcl (Nat.lt_trans ha1 ha2)))
    (fun s' ys t pl H1 q1 q2 => ?_) sizeLine _ (vsum []) s1.toks 0 ?_ ?_ ?_ ?_
  · exact ⟨.int (vsum ys), H1, inv_back I1 hex q1, ⟨t, rfl⟩, q2⟩
  · exact hlim.keeps (k1 _)
  · exact hgo _ (k1 _ _ _ hat)
  · exact hS0 _
  · refine susp_of hgs (run X.A.in1.in1 _ [s1.heap.objs.size] (GhS s1.heap.objs.size) _ hroom I.ok.frames (fun b hb => by rw [List.mem_singleton.mp hb]; exact Nat.le_refl _) (k1 _) hos (allBare_setGen (s := { s1 with heap := _ }) hb rfl) ?_ ⟨s1.toks, 0, rfl⟩)
    exact ⟨rfl, fun p hp => by rw [List.mem_singleton.mp hp]; exact ⟨hS0 _, fun v q => by cases q⟩⟩
end

/-! ### any, all -/
theorem drain1 {G : Cx} {nm : String} {bb : Bool} {Th : List V → V → Hp → Prop} {Qe : List V → Hp → Prop} {σ0 : L2.St} {A : Around} {a : Addr} {g : Nat} {go : Obj} {R : Result → Shared → Prop} (hh : A.handled = none) (hd : A.depth < recursionLimit) (hpa : (a, go) ∈ G.pn) (hgo : ∀ h : Heap, h.get? a = some go → h.IsGen a g)
    (hTh : ∀ ys x H, Th ys x H → ∃ b, x = .bl b)
    (step : ∀ (s : Shared) (R' : Result → Shared → Prop), wpAny (model G.prog G.w) A.in1 (pyNext (.ref a)) (fun r s1 => match r with
        | none => R' (.ok (.ret (.bool (!bb)))) s1
        | some v => ∃ b, v = .bool b ∧ if b = bb then R' (.ok (.ret (.bool bb))) s1 else codeAny (model G.prog G.w) A (.builtin nm ⟨[.ref a], []⟩) R' s1) (fun e s1 => R' (.error e) s1) s → codeAny (model G.prog G.w) A (.builtin nm ⟨[.ref a], []⟩) R' s)
    (hend : ∀ s' ys pl H, Inv G pl σ0 H s' → Qe ys H → (∀ y ∈ ys, y ≠ V.bl bb) → R (.ok (.ret (.bool (!bb)))) s') (hyes : ∀ s' ys pl H, Inv G pl σ0 H s' → Th ys (.bl bb) H → R (.ok (.ret (.bool bb))) s') :
    ∀ (n : Nat) (s : Shared), s.heap.NoLimit → s.heap.IsGen a g → Susp G ⟨[], fun ys pl => pl = [] ∧ ∀ y ∈ ys, y ≠ V.bl bb, Th, Qe⟩ σ0 A.in1 g n s → codeAny (model G.prog G.w) A (.builtin nm ⟨[.ref a], []⟩) R s := by
  intro n
  induction n using Nat.strongRecOn with
  | ind n ih =>
    intro s hl hg hS
    refine step s R (gx_next (A := A.in1) hh hd hl hg hS (fun ys x v pl H s1 h1 h2 h3 h4 h5 h6 h8 h7 => ?_) fun s1 hp => ?_)
    · obtain ⟨b, rfl⟩ := hTh _ _ _ h6
      have ev : v = Value.bool b := h2
      refine ⟨b, ev, ?_⟩
      by_cases hb : b = bb
      · rw [if_pos hb]
        subst hb
        exact hyes s1 ys pl H h5 h6
      · rw [if_neg hb]
        obtain ⟨m, hm, hS2⟩ := h7 s1 [] ⟨rfl, h5.bare, fun _ _ _ e => e⟩ rfl ⟨rfl, fun p hp => absurd hp (by simp)⟩ ⟨rfl, fun y hy => by
          rcases List.mem_append.mp hy with z | z
          · exact h4.2 y z
          · rw [List.mem_singleton.mp z]
            exact fun q => hb (V.bl.inj q)⟩
        exact ih m (by omega) s1 h5.nolimit (hgo _ (h5.pin (a, go) (List.mem_append_left _ hpa)).1) hS2
    · obtain ⟨ys, pl, H, q1, q2, q3, q4, q5, q6⟩ := hp
      exact hend s1 ys pl H q4 q5 q3.2
theorem step_any {prog : Program} {w : World} {A : Around} {a : Addr} (s : Shared) (R' : Result → Shared → Prop) (h : wpAny (model prog w) A.in1 (pyNext (.ref a)) (fun r s1 => match r with
        | none => R' (.ok (.ret (.bool (!true)))) s1
        | some v => ∃ b, v = .bool b ∧ if b = true then R' (.ok (.ret (.bool true))) s1 else codeAny (model prog w) A (.builtin "any.loop" ⟨[.ref a], []⟩) R' s1) (fun e s1 => R' (.error e) s1) s) : codeAny (model prog w) A (.builtin "any.loop" ⟨[.ref a], []⟩) R' s := by
  refine codeAny_builtin F.entry_any_loop ?_
  rw [Around.under_plainId F.plain_any_loop _]
  show wpAny _ A.in1 (pyNext (.ref a) >>= _) _ _ s
  refine wpAny_bind (thn h fun r s1 h1 => ?_)
  cases r with
  | none => exact wpAny_bind (wpAny_rule (wpAny_pure h1))
  | some v =>
    obtain ⟨b, rfl, h1⟩ := h1
    refine wpAny_bind (wpAny_holding (wpAny_truthy_bool ?_))
    refine wpAny_bind (wpAny_letGo ?_)
    cases b with
    | true =>
      simp only [if_true]
      exact wpAny_bind (wpAny_rule (wpAny_pure h1))
    | false =>
      simp only [Bool.false_eq_true, if_false]
      exact wpAny_pure ⟨plainId_quiet F.plain_any_loop _, h1⟩
theorem step_all {prog : Program} {w : World} {A : Around} {a : Addr} (s : Shared) (R' : Result → Shared → Prop) (h : wpAny (model prog w) A.in1 (pyNext (.ref a)) (fun r s1 => match r with
        | none => R' (.ok (.ret (.bool (!false)))) s1
        | some v => ∃ b, v = .bool b ∧ if b = false then R' (.ok (.ret (.bool false))) s1 else codeAny (model prog w) A (.builtin "all.loop" ⟨[.ref a], []⟩) R' s1) (fun e s1 => R' (.error e) s1) s) : codeAny (model prog w) A (.builtin "all.loop" ⟨[.ref a], []⟩) R' s := by
  refine codeAny_builtin F.entry_all_loop ?_
  rw [Around.under_plainId F.plain_all_loop _]
  show wpAny _ A.in1 (pyNext (.ref a) >>= _) _ _ s
  refine wpAny_bind (thn h fun r s1 h1 => ?_)
  cases r with
  | none => exact wpAny_bind (wpAny_rule (wpAny_pure h1))
  | some v =>
    obtain ⟨b, rfl, h1⟩ := h1
    refine wpAny_bind (wpAny_holding (wpAny_truthy_bool ?_))
    refine wpAny_bind (wpAny_letGo ?_)
    cases b with
    | false =>
      simp only [Bool.false_eq_true, if_false]
      exact wpAny_bind (wpAny_rule (wpAny_pure h1))
    | true =>
      simp only [if_true]
      exact wpAny_pure ⟨plainId_quiet F.plain_all_loop _, h1⟩
def tAnyG (tg : TGx) : TE := fun σ H Q => tg σ H (fun _ x H1 => ∃ b, x = .bl b ∧ (b = true → Q (.bl true) H1)) fun ys H1 => (∀ y ∈ ys, y ≠ V.bl true) → Q (.bl false) H1
def tAllG (tg : TGx) : TE := fun σ H Q => tg σ H (fun _ x H1 => ∃ b, x = .bl b ∧ (b = false → Q (.bl false) H1)) fun ys H1 => (∀ y ∈ ys, y ≠ V.bl false) → Q (.bl true) H1
section
variable {X : Cx} {p pos : Pos} {e : Expr} {tg : TGx} {k : Nat}
theorem pe_anyG (h : PGx X k e tg) (hr : Room (k + 4) X.A) (hg : Gl X "any") (hm : X.mg "any" = none)
    (he : starEach [e] X.env = (false, eval e X.env) :: starEach [] X.env := by rfl) : PE X (.Call (.Name "any" p) [e] [] pos) (tAnyG tg) := by
  refine ⟨fun pins s σ H Q I hq => ?_⟩
  refine wpAny_Call_Name_kw (ld_blt I hg hm boot_any' ?_)
  refine PyProof.Rows.callWith_builtin1 ?_ he (by rfl)
  rw [he]
  show wpAny _ _ (spliced ((false, eval e X.env) :: backTo pos (starEach [] X.env))) _ _ s
  refine Calls.spliced_cons (thn (h.run pins s σ H _ _ I hq) fun u s1 hG => ?_)
  refine Calls.spliced_nil ?_
  obtain ⟨a, g, c, go, sB, HB, N', cenv, fp, σ0, rfl, I1, hex, ha1, ha2, hgo, hat, hgs, hos, hb, hkp, run⟩ := hG
  refine call_function_tree F.kind_any F.plain_any F.entry_any (F.args_any1 _) ?_
  unfold Builtin.«any»
  refine wpAny_bind (m := oneArg "any" _) (wpAny_pure ?_)
  refine wpAny_bind (wpAny_pyIter_gen (hgo _ hat) ?_)
  have hroom : Room (k + 1) X.A.in1.in1 := ⟨hr.hd, by have := hr.dp; show X.A.depth + 3 * (k + 1) + 5 < _; omega, by have := hr.un; show X.A.units + 1 + 1 + 16 * (k + 1) + 200 < _; omega⟩
  refine wpAny_pure ⟨plainId_quiet F.plain_any_loop _, ?_⟩
  refine drain1 (G := gcx X sB HB N' cenv fp (X.A.in1.in1.deeper cenv) [(a, go)]) (bb := true) (nm := "any.loop") (Th := fun _ x H1 => ∃ b, x = .bl b ∧ (b = true → Q (.bl true) H1)) (Qe := fun ys H1 => (∀ y ∈ ys, y ≠ V.bl true) → Q (.bl false) H1) (σ0 := σ0) (A := X.A) (go := go) hr.hd (by have := hr.dp; show X.A.depth < _; omega) (List.mem_singleton.mpr rfl) hgo
    (fun _ _ _ ⟨b, e, _⟩ => ⟨b, e⟩) step_any (fun s' ys pl H1 q1 q2 q3 => ?_) (fun s' ys pl H1 q1 q2 => ?_) sizeLine _ (I1.nolimit.keeps hkp) (hgo _ hat) (susp_of hgs (run X.A.in1.in1 _ [] (fun ys pl => pl = [] ∧ ∀ y ∈ ys, y ≠ V.bl true) [] hroom I.ok.frames (fun b hb => absurd hb (by simp)) (fun _ _ e => e) hos (allBare_setGen hb rfl) ⟨rfl, fun p hp => absurd hp (by simp)⟩ ⟨rfl, fun y hy => absurd hy (by simp)⟩))
  · exact ⟨.bl false, H1, inv_back I1 hex q1, rfl, q2 q3⟩
  · obtain ⟨b, e, q2⟩ := q2
    cases e
    exact ⟨.bl true, H1, inv_back I1 hex q1, rfl, q2 rfl⟩
theorem pe_allG (h : PGx X k e tg) (hr : Room (k + 4) X.A) (hg : Gl X "all") (hm : X.mg "all" = none)
    (he : starEach [e] X.env = (false, eval e X.env) :: starEach [] X.env := by rfl) : PE X (.Call (.Name "all" p) [e] [] pos) (tAllG tg) := by
  refine ⟨fun pins s σ H Q I hq => ?_⟩
  refine wpAny_Call_Name_kw (ld_blt I hg hm boot_all' ?_)
  refine PyProof.Rows.callWith_builtin1 ?_ he (by rfl)
  rw [he]
  show wpAny _ _ (spliced ((false, eval e X.env) :: backTo pos (starEach [] X.env))) _ _ s
  refine Calls.spliced_cons (thn (h.run pins s σ H _ _ I hq) fun u s1 hG => ?_)
  refine Calls.spliced_nil ?_
  obtain ⟨a, g, c, go, sB, HB, N', cenv, fp, σ0, rfl, I1, hex, ha1, ha2, hgo, hat, hgs, hos, hb, hkp, run⟩ := hG
  refine call_function_tree F.kind_all F.plain_all F.entry_all (F.args_all1 _) ?_
  unfold Builtin.«all»
  refine wpAny_bind (m := oneArg "all" _) (wpAny_pure ?_)
  refine wpAny_bind (wpAny_pyIter_gen (hgo _ hat) ?_)
  have hroom : Room (k + 1) X.A.in1.in1 := ⟨hr.hd, by have := hr.dp; show X.A.depth + 3 * (k + 1) + 5 < _; omega, by have := hr.un; show X.A.units + 1 + 1 + 16 * (k + 1) + 200 < _; omega⟩
  refine wpAny_pure ⟨plainId_quiet F.plain_all_loop _, ?_⟩
  refine drain1 (G := gcx X sB HB N' cenv fp (X.A.in1.in1.deeper cenv) [(a, go)]) (bb := false) (nm := "all.loop") (Th := fun _ x H1 => ∃ b, x = .bl b ∧ (b = false → Q (.bl false) H1)) (Qe := fun ys H1 => (∀ y ∈ ys, y ≠ V.bl false) → Q (.bl true) H1) (σ0 := σ0) (A := X.A) (go := go) hr.hd (by have := hr.dp; show X.A.depth < _; omega) (List.mem_singleton.mpr rfl) hgo
    (fun _ _ _ ⟨b, e, _⟩ => ⟨b, e⟩) step_all (fun s' ys pl H1 q1 q2 q3 => ?_) (fun s' ys pl H1 q1 q2 => ?_) sizeLine _ (I1.nolimit.keeps hkp) (hgo _ hat) (susp_of hgs (run X.A.in1.in1 _ [] (fun ys pl => pl = [] ∧ ∀ y ∈ ys, y ≠ V.bl false) [] hroom I.ok.frames (fun b hb => absurd hb (by simp)) (fun _ _ e => e) hos (allBare_setGen hb rfl) ⟨rfl, fun p hp => absurd hp (by simp)⟩ ⟨rfl, fun y hy => absurd hy (by simp)⟩))
  · exact ⟨.bl true, H1, inv_back I1 hex q1, rfl, q2 q3⟩
  · obtain ⟨b, e, q2⟩ := q2
    cases e
    exact ⟨.bl false, H1, inv_back I1 hex q1, rfl, q2 rfl⟩
end
end GX
set_option Elab.async false
set_option linter.all false
set_option maxRecDepth 100000
set_option maxHeartbeats 4000000
/-! What all laws of this program share. -/
namespace KC
open PySem PySem.Spec PyProof.Rows L2 GX Evl

/-- a def of the top, called by its name -/
structure Cal (P : Program) (w : World) (K : PySem.W.Frag) (mg : Str → Option Value) (base : Heap) (nm : Str) (k : Nat) (ps : List Str) (sp : Sp) : Prop where
  out : ∃ f fd, mg nm = some (.ref f) ∧ PySem.W.keepIn K (.ref f) = true ∧ Binds K fd ps [] ∧ FnOk P w K mg base CX0 k f fd ps sp
theorem pe_callC {X : Cx} {nm : Str} {k : Nat} {ps : List Str} {sp : Sp} {p pos : Pos} {e : Expr} {es : List Expr} {t : TA} (C : Cal X.prog X.w X.K X.mg X.base nm k ps sp) (hr : Room k X.A) (hg : Gl X nm) (ha : PA X (e :: es) t)
    (hdb : (nm == ("__debug__" : Str)) = false := by decide) (he : starEach (e :: es) X.env = (false, eval e X.env) :: starEach es X.env := by rfl) (hpl : (backTo pos (starEach es X.env)).any (·.1) = false := by rfl) :
    PE X (.Call (.Name nm p) (e :: es) [] pos) (tCall sp [] E0 t) := by
  obtain ⟨f, fd, h1, h2, h3, h4⟩ := C.out
  exact pe_call h4 hr hg h1 h2 h3 .nil pass0 ha hdb he hpl

/-- the builtins that no def of the text hides -/
structure Bs (mg : Str → Option Value) : Prop where
  len : mg "len" = none
  int : mg "int" = none
  min : mg "min" = none
  max : mg "max" = none
  list : mg "list" = none
  sorted : mg "sorted" = none
  sum : mg "sum" = none
  range : mg "range" = none
  enumerate : mg "enumerate" = none
  zip : mg "zip" = none
  any : mg "any" = none
  isinstance : mg "isinstance" = none
  bool : mg "bool" = none
  reversed : mg "reversed" = none

/-- a def whose code object is known (its table of codes is used) -/
structure FunT (K : PySem.W.Frag) (x qual : Str) (st : Stmt) (f : Addr) (fd : FuncData) (c : Addr) : Prop where
  ex : ∃ (oc : Value) (od : Option Addr) (kV doc pm : Value) (an : Option Addr) (ct : Value) (osl : Array (Option Value)),
    fd = PySem.W.fnOf x qual (defArgs st) (defBody st) (defScope st) .none kV doc pm an (.ref c) ct ∧ K.lookup f = some ⟨oc, od, .func fd, osl⟩ ∧ PySem.W.codeIn K (.ref c) qual = true
  kp : PySem.W.keepIn K (.ref f) = true
theorem FunT.fn {K : PySem.W.Frag} {x qual : Str} {st : Stmt} {f c : Addr} {fd : FuncData} (F : FunT K x qual st f fd c) : Fun K x qual st f fd := by
  obtain ⟨oc, od, kV, doc, pm, an, ct, osl, h1, h2, h3⟩ := F.ex
  exact ⟨⟨oc, od, kV, doc, pm, an, .ref c, ct, osl, h1, h2, h3⟩, F.kp⟩
section
variable {P : Program} {w : World} {K : PySem.W.Frag} {mg : Str → Option Value} {base : Heap}
theorem FunT.ok {x qual : Str} {st : Stmt} {f c : Addr} {fd : FuncData} {N ps : List Str} {k : Nat} {sp : Sp} (F : FunT K x qual st f fd c) (S : FnScope N ps (defScope st)) (len : ∀ vs H Q E, sp vs H Q E → vs.length = ps.length)
    (hbody : ∀ (A : Around) (outer : List Env) (s : Shared) (H : Hp) (vs : List V) (Q : VK) (E : XK), Room k (A.deeper (envOfC qual (defScope st) s.heap.objs.size f (.ref c))) → sp vs H Q E →
      ∃ t, PSs (cxOf CX0 P w K mg base N qual (defScope st) f (.ref c) A outer s H E).nox (defBody st) t ∧ t { nx := fun _ H' => Q .non H', rt := Q } (start N vs) H) : FnOk P w K mg base CX0 (k + 1) f fd ps sp := by
  obtain ⟨oc, od, kV, doc, pm, an, ct, osl, rfl, lk, hcd⟩ := F.ex
  refine fn_of lk hcd S len fun A outer s H vs Q E hr hsp => ?_
  obtain ⟨t, h, q⟩ := hbody A outer s H vs Q E hr hsp
  exact ⟨t, h.nox, q⟩
theorem cal_of {nm : Str} {st : Stmt} {f : Addr} {fd : FuncData} {k : Nat} {ps : List Str} {sp : Sp} (F : Fun K nm nm st f fd) (g : mg nm = some (.ref f)) (b : Binds K fd ps []) (ok : FnOk P w K mg base CX0 k f fd ps sp) : Cal P w K mg base nm k ps sp :=
  ⟨f, fd, g, F.kp, b, ok⟩
end

/-! ### heaps -/
theorem ex_of_new {H H' : Hp} {p : Addr} {o : HO} (e : Ex H H') (h : H' p = none) : Ex H (upd H' p o) := e.trans (Ex.new h)
mutual
theorem Dp.ext {K : PySem.W.Frag} {H H' : Hp} (e : Ex H H') : ∀ (d : PyData) (v : V), Dp K H v d → Dp K H' v d
  | .none, _, h => by cases h; exact .non
  | .bool b, _, h => by cases h; exact .bl b
  | .int i, _, h => by cases h; exact .int i
  | .str x, _, h => by cases h; exact .str x
  | .list ds, _, h => by
    cases h with
    | lst h1 h2 => exact .lst (ex_l e h1) (DpAll.ext e ds _ h2)
  | .tuple ds, _, h => by
    cases h with
    | tup h1 h2 => exact .tup (ex_t e h1) (DpAll.ext e ds _ h2)
  | .dict _, _, h => by cases h
theorem DpAll.ext {K : PySem.W.Frag} {H H' : Hp} (e : Ex H H') : ∀ (ds : List PyData) (vs : List V), DpAll K H vs ds → DpAll K H' vs ds
  | [], _, h => by cases h; exact .nil
  | d :: ds, _, h => by
    cases h with
    | cons h1 h2 => exact .cons (Dp.ext e d _ h1) (DpAll.ext e ds _ h2)
end
theorem DpAll.app {K : PySem.W.Frag} {H : Hp} : ∀ {vs : List V} {ds : List PyData} {v : V} {d : PyData}, DpAll K H vs ds → Dp K H v d → DpAll K H (vs ++ [v]) (ds ++ [d])
  | [], _, _, _, h, h2 => by cases h; exact .cons h2 .nil
  | _ :: _, _, _, _, h, h2 => by
    cases h with
    | cons a b => exact .cons a (DpAll.app b h2)
theorem DpAll.len {K : PySem.W.Frag} {H : Hp} : ∀ {vs : List V} {ds : List PyData}, DpAll K H vs ds → vs.length = ds.length
  | [], _, h => by cases h; rfl
  | _ :: _, _, h => by
    cases h with
    | cons a b => exact congrArg (· + 1) (DpAll.len b)
theorem dpAll_ints {K : PySem.W.Frag} {H : Hp} : ∀ ns : List Int, DpAll K H (ns.map V.int) (ns.map PyData.int)
  | [] => .nil
  | n :: r => .cons (.int n) (dpAll_ints r)
theorem eqvAll_ints : ∀ xs ys : List Int, PyData.eqvAll (xs.map PyData.int) (ys.map PyData.int) = decide (xs = ys)
  | [], [] => by simp [PyData.eqvAll]
  | [], _ :: _ => by simp [PyData.eqvAll]
  | _ :: _, [] => by simp [PyData.eqvAll]
  | x :: xs, y :: ys => by
    simp only [List.map_cons, PyData.eqvAll, PyData.eqv, eqvAll_ints xs ys]
    by_cases h1 : x = y <;> by_cases h2 : xs = ys <;> simp [h1, h2]
theorem int_at {ns : List Int} {i : Nat} (h : i < ns.length) : (ns.map V.int)[i]? = some (.int (ns.getD i 0)) := by
  rw [List.getElem?_map, List.getElem?_eq_getElem h, List.getD_eq_getElem?_getD, List.getElem?_eq_getElem h]
  rfl
theorem atI_at {ns : List Int} {z : Int} {i : Nat} (e : z = (i : Int)) (h : i < ns.length) : atI (ns.map V.int) z = some (.int (ns.getD i 0)) := at_of e (int_at h)

/-! ### more readings, in short -/
section
variable {K : PySem.W.Frag} {σ : L2.St} {H H' : Hp} {ta tb te tx : TE} {t u : TT} {x y z v : V} {D : Ends} {tu tw tz : TS} {g : TG}
theorem rv_mod {i j : Int} (h : 0 < j) : RV (rI (fun _ j => 0 < j) fun i j => .int (i % j)) (.int i) (.int j) H (.int (i % j)) := rv_I h
theorem rv_div {i j : Int} (h : 0 < j) (h2 : j < 1073741824) : RV (rI CDiv fun i j => .int (i / j)) (.int i) (.int j) H (.int (i / j)) := rv_I ⟨h, h2⟩
theorem rv_mul {i j : Int} (h : -(2 ^ 64) < i ∧ i < 2 ^ 64) : RV (rI CMul fun i j => .int (i * j)) (.int i) (.int j) H (.int (i * j)) := rv_I (.inl h)
theorem rc_val {r : List V → Hp → VK → Prop} {vs : List V} (h : ∀ H1, Ex H H1 → ∀ Q : VK, Q z H1 → r vs H1 Q) : RC r vs H z := fun H1 e Q q => h H1 e Q (q H1 (Ex.refl H1))
theorem rc_int {i : Int} : RC (fun xs H Q => (∃ i, xs = [.int i] ∧ Q (.int i) H) ∨ ∃ k, xs = [.bl k] ∧ Q (.int (if k then 1 else 0)) H) [.int i] H (.int i) := rc_val fun _ _ _ q => .inl ⟨i, rfl, q⟩
theorem rc_len {a : Addr} {xs : List V} {r : List V → Hp → VK → Prop} (h : ∀ H1, Ex H H1 → ∀ Q : VK, Q (.int (xs.length : Int)) H1 → r [.ref a] H1 Q) : RC r [.ref a] H (.int (xs.length : Int)) := rc_val h
theorem ea1 (h : Ev ta σ H x) : EvA (tCons ta tNil) σ H [x] := ea_cons h ea_nil
theorem ea2 (h : Ev ta σ H x) (h2 : Ev tb σ H y) : EvA (tCons ta (tCons tb tNil)) σ H [x, y] := ea_cons h (ea1 h2)
theorem ea3 {tc : TE} (h : Ev ta σ H x) (h2 : Ev tb σ H y) (h3 : Ev tc σ H z) : EvA (tCons ta (tCons tb (tCons tc tNil))) σ H [x, y, z] := ea_cons h (ea2 h2 h3)
end
end KC
set_option Elab.async false
set_option linter.all false
set_option maxRecDepth 100000
set_option maxHeartbeats 4000000
namespace KC
open PySem PySem.Spec PyProof.Rows L2 GX Evl

/-- it gives data d -/
def EvD (K : PySem.W.Frag) (te : TE) (σ : L2.St) (H : Hp) (d : PyData) : Prop := ∀ H1, Ex H H1 → ∀ Q : VK, (∀ v H2, Ex H1 H2 → Dp K H2 v d → Q v H2) → te σ H1 Q
def EvDA (K : PySem.W.Frag) (ta : TA) (σ : L2.St) (H : Hp) (ds : List PyData) : Prop := ∀ H1, Ex H H1 → ∀ Q : List V → Hp → Prop, (∀ vs H2, Ex H1 H2 → DpAll K H2 vs ds → Q vs H2) → ta σ H1 Q
def RetD (K : PySem.W.Frag) (d : PyData) (H : Hp) (Q : VK) : Prop := ∀ v H2, Ex H H2 → Dp K H2 v d → Q v H2
def SpD (K : PySem.W.Frag) (sp : Sp) (vs : List V) (H : Hp) (d : PyData) : Prop := ∀ H1, Ex H H1 → ∀ Q : VK, (∀ v H2, Ex H1 H2 → Dp K H2 v d → Q v H2) → ∀ E : XK, sp vs H1 Q E
mutual
def noList : PyData → Bool
  | .list _ => false
  | .dict _ => false
  | .tuple ds => noListAll ds
  | _ => true
def noListAll : List PyData → Bool
  | [] => true
  | d :: r => noList d && noListAll r
end
theorem sqt_put {K : PySem.W.Frag} {H : Hp} {l a : Addr} {zs ys xs : List V} (h : SqT K H a xs) (hl : H l = some (.lst zs)) : SqT K (upd H l (.lst ys)) a xs := by
  rcases h with (h | ⟨o, h⟩) | h
  · exact .inl (.inl (by rw [upd_ne (fun e => by rw [e, hl] at h; cases h)]; exact h))
  · exact .inl (.inr ⟨o, by rw [upd_ne (fun e => by rw [e, hl] at h; cases h)]; exact h⟩)
  · exact .inr h
theorem sql_put {K : PySem.W.Frag} {H : Hp} {l a : Addr} {ys xs : List V} (h : SqL K H a xs) (hl : a ≠ l) : SqL K (upd H l (.lst ys)) a xs := by
  rcases h with (h | ⟨o, h⟩) | h
  · exact .inl (.inl (by rw [upd_ne hl]; exact h))
  · exact .inl (.inr ⟨o, by rw [upd_ne hl]; exact h⟩)
  · exact .inr h
mutual
theorem Dp.put {K : PySem.W.Frag} {H : Hp} {l : Addr} {zs ys : List V} (hl : H l = some (.lst zs)) : ∀ (d : PyData) (v : V), noList d = true → Dp K H v d → Dp K (upd H l (.lst ys)) v d
  | .none, _, _, h => by cases h; exact .non
  | .bool b, _, _, h => by cases h; exact .bl b
  | .int i, _, _, h => by cases h; exact .int i
  | .str x, _, _, h => by cases h; exact .str x
  | .list _, _, z, _ => by simp [noList] at z
  | .tuple ds, _, z, h => by
    cases h with
    | tup h1 h2 => exact .tup (sqt_put h1 hl) (DpAll.put hl ds _ (by simpa [noList] using z) h2)
  | .dict _, _, _, h => by cases h
theorem DpAll.put {K : PySem.W.Frag} {H : Hp} {l : Addr} {zs ys : List V} (hl : H l = some (.lst zs)) : ∀ (ds : List PyData) (vs : List V), noListAll ds = true → DpAll K H vs ds → DpAll K (upd H l (.lst ys)) vs ds
  | [], _, _, h => by cases h; exact .nil
  | d :: ds, _, z, h => by
    cases h with
    | cons h1 h2 =>
      simp only [noListAll, Bool.and_eq_true] at z
      exact .cons (Dp.put hl d _ z.1 h1) (DpAll.put hl ds _ z.2 h2)
end
theorem noListAll_map {α : Type} {f : α → PyData} (hf : ∀ a, noList (f a) = true) : ∀ xs : List α, noListAll (xs.map f) = true
  | [] => rfl
  | a :: r => by simp [noListAll, hf a, noListAll_map hf r]

section
variable {K : PySem.W.Frag} {σ : L2.St} {H H' : Hp} {ta tb te tx : TE} {t u : TT} {x y z v : V} {D : Ends} {tu tw tz : TS} {g : TG} {d d2 : PyData} {ds : List PyData}
theorem EvD.mono (e : Ex H H') (h : EvD K te σ H d) : EvD K te σ H' d := fun H1 a Q q => h H1 (e.trans a) Q q
theorem ed_int {i : Int} (h : Ev te σ H (.int i)) : EvD K te σ H (.int i) := fun H1 e Q q => h H1 e Q fun H2 e2 => q _ H2 e2 (.int i)
theorem ed_non (h : Ev te σ H .non) : EvD K te σ H .none := fun H1 e Q q => h H1 e Q fun H2 e2 => q _ H2 e2 .non
theorem ed_bl {b : Bool} (h : Ev te σ H (.bl b)) : EvD K te σ H (.bool b) := fun H1 e Q q => h H1 e Q fun H2 e2 => q _ H2 e2 (.bl b)
theorem ed_at (h : Ev te σ H v) (hd : Dp K H v d) : EvD K te σ H d := fun H1 e Q q => h H1 e Q fun H2 e2 => q _ H2 e2 (Dp.ext (e.trans e2) _ _ hd)
theorem eda_nil : EvDA K tNil σ H [] := fun H1 _ Q q => q [] H1 (Ex.refl H1) .nil
theorem eda_cons {tr : TA} (h : EvD K te σ H d) (hr : EvDA K tr σ H ds) : EvDA K (tCons te tr) σ H (d :: ds) := fun H1 e Q q =>
  h H1 e _ fun v H2 e2 hv => hr H2 (e.trans e2) _ fun vs H3 e3 hvs => q _ H3 (e2.trans e3) (.cons (Dp.ext e3 _ _ hv) hvs)
theorem ed_tup {ta : TA} (h : EvDA K ta σ H ds) (hl : ds.length ≤ 100000) : EvD K (tTup ta) σ H (.tuple ds) := fun H1 e Q q =>
  h H1 e _ fun vs H2 e2 hvs => ⟨sz_of (by rw [DpAll.len hvs]; exact hl), fun p hp => q _ _ (e2.trans (Ex.new hp)) (.tup (.inl (.inl upd_same)) (DpAll.ext (Ex.new hp) _ _ hvs))⟩
theorem ed_lst {ta : TA} (h : EvDA K ta σ H ds) (hl : ds.length ≤ 100000) : EvD K (tLst ta) σ H (.list ds) := fun H1 e Q q =>
  h H1 e _ fun vs H2 e2 hvs => ⟨sz_of (by rw [DpAll.len hvs]; exact hl), fun p hp => q _ _ (e2.trans (Ex.new hp)) (.lst (.inl (.inl upd_same)) (DpAll.ext (Ex.new hp) _ _ hvs))⟩
theorem ed_call {sp : Sp} {dvs vs : List V} {E : XK} {ta : TA} (h : EvA ta σ H vs) (hs : SpD K sp (vs ++ dvs) H d) : EvD K (tCall sp dvs E ta) σ H d := fun H1 e Q q =>
  h H1 e _ fun H2 e2 => hs H2 (e.trans e2) Q (fun v H3 e3 hv => q v H3 (e2.trans e3) hv) E
/-- a list of ints as data -/
theorem ed_listI {ns : List Int} (h : EvL te σ H (ns.map V.int)) : EvD K te σ H (.list (ns.map PyData.int)) := fun H1 e Q q =>
  h H1 e Q fun p H2 _ e2 hp => q _ H2 e2 (.lst (.inl (.inl hp)) (dpAll_ints ns))
theorem dp_listI {l : Addr} {ns : List Int} (h : SqL K H l (ns.map V.int)) : Dp K H (.ref l) (.list (ns.map PyData.int)) := .lst h (dpAll_ints ns)
theorem s_retD (h : EvD K te σ H d) (k : ∀ v H1, Ex H H1 → Dp K H1 v d → D.rt v H1) : tRet te D σ H := h H (Ex.refl H) _ k
theorem s_asgD {i : Nat} (h : EvD K te σ H d) (k : ∀ v H1, Ex H H1 → Dp K H1 v d → D.nx (σ.set i (some v)) H1) : tAsg te (gName i) D σ H := h H (Ex.refl H) _ k
theorem q_asgD {i : Nat} (h : EvD K te σ H d) (k : ∀ v H1, Ex H H1 → Dp K H1 v d → tz D (σ.set i (some v)) H1) : tSeq (tAsg te (gName i)) tz D σ H := s_asgD (D := { D with nx := tz D }) h k
/-- xs.append(data) -/
theorem s_appD {l : Addr} {xs : List V} (hl : H l = some (.lst xs)) (ha : Ev ta σ H (.ref l)) (h : EvD K te σ H d) (hz : xs.length < 100000) (k : ∀ v H1, Ex H H1 → Dp K H1 v d → D.nx σ (upd H1 l (.lst (xs ++ [v])))) :
    tDrop (tBM K "list" rAppend ta (tCons te tNil)) D σ H := ha H (Ex.refl H) _ fun H1 e1 =>
  ⟨Or.inl ⟨rfl, xs, sq_of (e1 l _ hl)⟩, h H1 e1 _ fun v H2 e2 hv => ⟨l, xs, v, rfl, rfl, e2 l _ (e1 l _ hl), sz_lt hz, k v H2 (e1.trans e2) hv⟩⟩
/-- data equal, not equal -/
theorem ev_eqD (ha : EvD K ta σ H d) (hb : EvD K tb σ H d2) (h1 : SeqAt.shaped d = true) (h2 : SeqAt.shaped d2 = true) : Ev (tOp (rEqD K) ta tb) σ H (.bl (PyData.eqv d d2)) := fun H1 e Q q =>
  ha H1 e _ fun v H2 e2 hv => hb H2 (e.trans e2) _ fun u H3 e3 hu => ⟨d, d2, Dp.ext e3 _ _ hv, hu, h1, h2, q H3 (e2.trans e3)⟩
theorem ev_neD (ha : EvD K ta σ H d) (hb : EvD K tb σ H d2) (h1 : SeqAt.shaped d = true) (h2 : SeqAt.shaped d2 = true) : Ev (tOp (rNeD K) ta tb) σ H (.bl (!PyData.eqv d d2)) := fun H1 e Q q =>
  ha H1 e _ fun v H2 e2 hv => hb H2 (e.trans e2) _ fun u H3 e3 hu => ⟨d, d2, Dp.ext e3 _ _ hv, hu, h1, h2, q H3 (e2.trans e3)⟩
theorem el_cat {xs ys : List V} {b : Addr} (ha : EvL ta σ H xs) (hb : Ev tb σ H (.ref b)) (h : H b = some (.lst ys)) (hz : xs.length + ys.length ≤ 100000) : EvL (tOp rCat ta tb) σ H (xs ++ ys) := fun H1 e Q q =>
  ha H1 e _ fun p H2 np e2 hp => hb H2 (e.trans e2) _ fun H3 e3 => ⟨p, b, xs, ys, rfl, rfl, e3 p _ hp, ((e.trans e2).trans e3) b _ h, sz_of hz, fun p2 hp2 => q p2 _ (fresh_back (e2.trans e3) hp2) ((e2.trans e3).trans (Ex.new hp2)) upd_same⟩
theorem el_cat2 {xs ys : List V} {a b : Addr} (ha : Ev ta σ H (.ref a)) (h0 : H a = some (.lst xs)) (hb : Ev tb σ H (.ref b)) (h : H b = some (.lst ys)) (hz : xs.length + ys.length ≤ 100000) : EvL (tOp rCat ta tb) σ H (xs ++ ys) := fun H1 e Q q =>
  ha H1 e _ fun H2 e2 => hb H2 (e.trans e2) _ fun H3 e3 => ⟨a, b, xs, ys, rfl, rfl, ((e.trans e2).trans e3) a _ h0, ((e.trans e2).trans e3) b _ h, sz_of hz, fun p2 hp2 => q p2 _ (fresh_back (e2.trans e3) hp2) ((e2.trans e3).trans (Ex.new hp2)) upd_same⟩
theorem el_rep {xs : List V} {i : Int} (ha : EvL ta σ H xs) (hb : Ev tb σ H (.int i)) (h1 : 0 ≤ i ∧ i ≤ 10000) (hz : xs.length ≤ 10) : EvL (tOp rRep ta tb) σ H (List.replicate i.toNat xs).flatten := fun H1 e Q q =>
  ha H1 e _ fun p H2 np e2 hp => hb H2 (e.trans e2) _ fun H3 e3 => ⟨p, i, xs, rfl, rfl, e3 p _ hp, by omega, by omega, sz_of (Nat.le_trans (Nat.mul_le_mul hz (show i.toNat ≤ 10000 by omega)) (by decide)), fun p2 hp2 => q p2 _ (fresh_back (e2.trans e3) hp2) ((e2.trans e3).trans (Ex.new hp2)) upd_same⟩
theorem el_rev {xs : List V} {a : Addr} (ha : Ev ta σ H (.ref a)) (h : SqL K H a xs) : EvL (tRevL K ta) σ H xs.reverse := fun H1 e Q q =>
  ha H1 e _ fun H2 e2 => ⟨a, xs, rfl, ex_l (e.trans e2) h, fun p hp => q p _ (fresh_back e2 hp) (e2.trans (Ex.new hp)) upd_same⟩
theorem el_if {b : Bool} {xs : List V} (h : EvT t σ H b) (h1 : b = true → EvL ta σ H xs) (h2 : b = false → EvL tb σ H xs) : EvL (tIf t ta tb) σ H xs := fun H1 e Q q => h H1 e _ fun H2 e2 => by
  cases b with
  | true => exact h1 rfl H2 (e.trans e2) Q fun p H3 hp e3 => q p H3 (fresh_back e2 hp) (e2.trans e3)
  | false => exact h2 rfl H2 (e.trans e2) Q fun p H3 hp e3 => q p H3 (fresh_back e2 hp) (e2.trans e3)
theorem rv_shl {i j : Int} (h : 0 ≤ j ∧ j ≤ 1000000 ∧ i.natAbs < 2 ^ 64) : RV (rI CPow fun i j => .int (i * 2 ^ j.toNat)) (.int i) (.int j) H (.int (i * 2 ^ j.toNat)) := rv_I h
theorem rv_shr {i j : Int} (h : 0 ≤ j) : RV (rI (fun _ j => 0 ≤ j) fun i j => .int (i / 2 ^ j.toNat)) (.int i) (.int j) H (.int (i / 2 ^ j.toNat)) := rv_I h
theorem rc_min {i j : Int} : RC (fun xs H Q => ∃ i j, xs = [.int i, .int j] ∧ Q (.int (if j < i then j else i)) H) [.int i, .int j] H (.int (if j < i then j else i)) := rc_val fun _ _ _ q => ⟨i, j, rfl, q⟩
theorem rc_max {i j : Int} : RC (fun xs H Q => ∃ i j, xs = [.int i, .int j] ∧ Q (.int (if j > i then j else i)) H) [.int i, .int j] H (.int (if j > i then j else i)) := rc_val fun _ _ _ q => ⟨i, j, rfl, q⟩
theorem ev_min {i j : Int} (h : Ev ta σ H (.int i)) (h2 : Ev tb σ H (.int j)) : Ev (tCB (fun xs H Q => ∃ i j, xs = [.int i, .int j] ∧ Q (.int (if j < i then j else i)) H) (tCons ta (tCons tb tNil))) σ H (.int (if j < i then j else i)) := ev_cb (ea2 h h2) rc_min
theorem ev_add {i j : Int} (h : Ev ta σ H (.int i)) (h2 : Ev tb σ H (.int j)) : Ev (tOp (rI0 fun i j => .int (i + j)) ta tb) σ H (.int (i + j)) := ev_op h h2 rv_I0
theorem ev_sub {i j : Int} (h : Ev ta σ H (.int i)) (h2 : Ev tb σ H (.int j)) : Ev (tOp (rI0 fun i j => .int (i - j)) ta tb) σ H (.int (i - j)) := ev_op h h2 rv_I0
theorem ev_lt {i j : Int} (h : Ev ta σ H (.int i)) (h2 : Ev tb σ H (.int j)) : Ev (tOp (rI0 fun i j => .bl (decide (i < j))) ta tb) σ H (.bl (decide (i < j))) := ev_op h h2 rv_I0
theorem ev_eq {i j : Int} (h : Ev ta σ H (.int i)) (h2 : Ev tb σ H (.int j)) : Ev (tOp rEq ta tb) σ H (.bl (decide (i = j))) := by
  have q := ev_op h h2 (rv_eq (x := .int i) (y := .int j) rfl)
  have e : decide ((V.int i) = V.int j) = decide (i = j) := by
    by_cases z : i = j
    · subst z; simp
    · rw [decide_eq_false z, decide_eq_false (fun q => z (V.int.inj q))]
  rw [e] at q
  exact q
theorem ev_ne {i j : Int} (h : Ev ta σ H (.int i)) (h2 : Ev tb σ H (.int j)) : Ev (tOp rNe ta tb) σ H (.bl (!decide (i = j))) := by
  have q := ev_op h h2 (rv_ne (x := .int i) (y := .int j) rfl)
  have e : decide ((V.int i) = V.int j) = decide (i = j) := by
    by_cases z : i = j
    · subst z; simp
    · rw [decide_eq_false z, decide_eq_false (fun q => z (V.int.inj q))]
  rw [e] at q
  exact q
end
end KC
set_option Elab.async false
set_option linter.all false
set_option maxRecDepth 100000
set_option maxHeartbeats 4000000
namespace KC
open PySem PySem.Spec PyProof.Rows L2 GX Evl
def capC (N N' : List Str) (cm : List (Option Nat)) (scope sc : Scope) : Bool :=
  decide (scope.kind = .function) && !scope.isCoroutine && (scope.names.all fun y => decide (y.2 ≠ .cell)) && decide (scope.names.lookup (".0" : Str) = some NameKind.local) &&
    (scope.names.all fun y => !decide (y.2 = .free) || (decide (sc.names.lookup y.1 = some .cell) || decide (sc.names.lookup y.1 = some .free))) && decide (cm.length = N'.length) &&
    ((cm.zip N').all fun p => match p.1 with | some j => (N[j]? == some p.2) && (scope.names.lookup p.2 == some .free) | none => true)
theorem capOk_by {N N' : List Str} {cm : List (Option Nat)} {scope sc : Scope} (h : capC N N' cm scope sc = true) : CapOk N N' cm scope sc := by
  unfold capC at h
  simp only [Bool.and_eq_true, List.all_eq_true, decide_eq_true_eq, Bool.not_eq_true', Bool.or_eq_true, decide_eq_false_iff_not] at h
  obtain ⟨⟨⟨⟨⟨⟨h1, h2⟩, h3⟩, h4⟩, h5⟩, h6⟩, h7⟩ := h
  refine ⟨h1, h2, h3, h4, fun y hy e => ?_, h6, ?_⟩
  · rcases h5 y hy with z | z
    · exact absurd e z
    · exact z
  · rw [List.all_eq_true]
    intro p hp
    have := h7 p hp
    revert this
    cases p.1 <;> simp
theorem ix_listK {X : Cx} {K : PySem.W.Frag} (h : X.K = K) : IxR X (rIxL K) := by
  subst h
  exact ix_list
theorem ix_tupK {X : Cx} {K : PySem.W.Frag} (h : X.K = K) : IxR X (rIxT K) := by
  subst h
  exact ix_tup
theorem canLayAll0_map {α : Type} {f : α → PyData} (h : ∀ a, (f a).canLay0 = true) : ∀ xs : List α, PyData.canLayAll0 (xs.map f) = true
  | [] => by simp [PyData.canLayAll0]
  | a :: r => by simp [PyData.canLayAll0, h a, canLayAll0_map h r]
theorem depthAll_map {α : Type} {f : α → PyData} {n : Nat} (h : ∀ a, (f a).depth ≤ n) : ∀ xs : List α, PyData.depthAll (xs.map f) ≤ n
  | [] => by simp [PyData.depthAll]
  | a :: r => by
    have h1 := depthAll_map h r
    have h2 := h a
    simp only [List.map_cons, PyData.depthAll]
    omega
theorem shaped_list {α : Type} {f : α → PyData} {n : Nat} (hn : n ≤ 60) (h1 : ∀ a, (f a).canLay0 = true) (h2 : ∀ a, (f a).depth ≤ n) (xs : List α) : SeqAt.shaped (.list (xs.map f)) = true := by
  have h3 := depthAll_map h2 xs
  have h4 : PyData.depth (.list (xs.map f)) ≤ 64 := by simp only [PyData.depth]; omega
  show (PyData.canLay0 (.list (xs.map f)) && decide (PyData.depth (.list (xs.map f)) ≤ 64)) = true
  rw [Bool.and_eq_true]
  exact ⟨by simp only [PyData.canLay0]; exact canLayAll0_map h1 xs, decide_eq_true h4⟩
theorem shaped_ints (ns : List Int) : SeqAt.shaped (.list (ns.map PyData.int)) = true := shaped_list (n := 1) (by decide) (fun a => by simp [PyData.canLay0]) (fun a => by simp [PyData.depth]) ns
theorem eqvAll_map {α : Type} {f : α → PyData} (h : ∀ a, PyData.eqv (f a) (f a) = true) : ∀ xs : List α, PyData.eqvAll (xs.map f) (xs.map f) = true
  | [] => by simp [PyData.eqvAll]
  | a :: r => by simp [PyData.eqvAll, h a, eqvAll_map h r]
theorem eqv_list {α : Type} {f : α → PyData} (h : ∀ a, PyData.eqv (f a) (f a) = true) (xs : List α) : PyData.eqv (.list (xs.map f)) (.list (xs.map f)) = true := by
  simp only [PyData.eqv]
  exact eqvAll_map h xs
theorem eqv_ints (xs : List Int) : PyData.eqv (.list (xs.map PyData.int)) (.list (xs.map PyData.int)) = true := eqv_list (fun a => by simp [PyData.eqv]) xs
section
variable {K : PySem.W.Frag} {σ : L2.St} {H H' : Hp} {ta tb tc te tx : TE}
theorem ev_sumL {ns : List Int} (h : EvL te σ H (ns.map V.int)) : Ev (tCB (rSum K) (tCons te tNil)) σ H (.int ns.sum) := fun H1 e Q q =>
  h H1 e _ fun p H2 _ e2 hp => ⟨p, ns, rfl, sq_of hp, q H2 e2⟩
theorem ev_sumLa {ns : List Int} {a : Addr} (h : Ev te σ H (.ref a)) (hs : SqL K H a (ns.map V.int)) : Ev (tCB (rSum K) (tCons te tNil)) σ H (.int ns.sum) := fun H1 e Q q =>
  h H1 e _ fun H2 e2 => ⟨a, ns, rfl, ex_l (e.trans e2) hs, q H2 e2⟩
theorem et_yes : EvT tYes σ H true := fun H1 _ _ q => q H1 (Ex.refl H1)
/-- list(xs) -/
theorem el_listOf {p : Addr} {xs : List V} (ha : Ev ta σ H (.ref p)) (h : SqL K H p xs) : EvL (tCB (fun xs H Q => ∃ p ys, xs = [.ref p] ∧ (SqL K H p ys ∨ SqT K H p ys) ∧ ∀ l, H l = none → Q (.ref l) (upd H l (.lst ys))) (tCons ta tNil)) σ H xs := fun H1 e Q q =>
  ha H1 e _ fun H2 e2 => ⟨p, xs, rfl, .inl (ex_l (e.trans e2) h), fun l hl => q l _ (fresh_back e2 hl) (e2.trans (Ex.new hl)) upd_same⟩
/-- a call whose third argument is a new tuple -/
theorem ed_call3U {sp : Sp} {E : XK} {x y : V} {xs : List V} {d : PyData} (h1 : Ev ta σ H x) (h2 : Ev tb σ H y) (h3 : EvU tc σ H xs) (hs : ∀ p H1, Ex H H1 → H1 p = some (.tup xs) → SpD K sp [x, y, .ref p] H1 d) : EvD K (tCall sp [] E (tCons ta (tCons tb (tCons tc tNil)))) σ H d := fun H1 e Q q =>
  h1 H1 e _ fun H2 e2 => h2 H2 (e.trans e2) _ fun H3 e3 => h3 H3 ((e.trans e2).trans e3) _ fun p H4 hp e4 h4 =>
    hs p H4 (((e.trans e2).trans e3).trans e4) h4 H4 (Ex.refl _) Q (fun v H5 e5 hv => q v H5 (((e2.trans e3).trans e4).trans e5) hv) E
end
end KC
set_option Elab.async false
set_option linter.all false
set_option maxRecDepth 100000
set_option maxHeartbeats 4000000
namespace KC
open PySem PySem.Spec PyProof.Rows L2 StX GX Evl
section
variable {K : PySem.W.Frag} {σ : L2.St} {H H' : Hp} {ta tb tc te tx tl : TE} {D : Ends} {tz : TS}
theorem tt_yes {A B : Hp → Prop} (h : A H) : tYes σ H (fun b H3 => if b = true then A H3 else B H3) := by
  show (if true = true then A H else B H)
  rw [if_pos rfl]
  exact h
/-- a < b < c -/
theorem ev_chain {r r2 : R2} {x y z : V} {b1 b2 : Bool} (h1 : Ev ta σ H x) (h2 : Ev tb σ H y) (h3 : RV r x y H (.bl b1)) (h4 : b1 = true → Ev tc σ H z) (h5 : b1 = true → RV r2 y z H (.bl b2)) : Ev (tChain r r2 ta tb tc) σ H (.bl (b1 && b2)) := fun H1 e Q q =>
  h1 H1 e _ fun H2 e2 => h2 H2 (e.trans e2) _ fun H3 e3 => h3 H3 ((e.trans e2).trans e3) _ fun H4 e4 => by
    have e14 := (e2.trans e3).trans e4
    refine ⟨b1, rfl, ?_⟩
    cases b1 with
    | false =>
      rw [if_neg Bool.false_ne_true]
      exact q H4 e14
    | true =>
      rw [if_pos rfl]
      exact h4 rfl H4 (e.trans e14) _ fun H5 e5 => h5 rfl H5 ((e.trans e14).trans e5) _ fun H6 e6 => q H6 ((e14.trans e5).trans e6)
/-- max([c, *xs]) where c is not below any -/
theorem ev_maxStar {c : Int} {l : Addr} {ls : List Int} (h : Ev ta σ H (.int c)) (h2 : Ev tb σ H (.ref l)) (hs : SqL K H l (ls.map V.int)) (hb : ∀ x ∈ ls, x ≤ c) (hz : ls.length ≤ 1000) :
    Ev (tCB (rMax K) (tCons (tLst (tCons ta (tStar K tb tNil))) tNil)) σ H (.int c) := fun H1 e Q q =>
  h H1 e _ fun H2 e2 => h2 H2 (e.trans e2) _ fun H3 e3 => by
    refine ⟨l, ls.map V.int, rfl, .inr (ex_l ((e.trans e2).trans e3) hs), sz_of ?_, fun p hp => ⟨p, c :: ls, rfl, sq_of ?_, Nat.succ_pos _, fun m hm hall => ?_⟩⟩
    · simp
      omega
    · rw [upd_same, List.append_nil]
      rfl
    · have h1 := hall c List.mem_cons_self
      have h3 : m ≤ c := by
        rcases List.mem_cons.mp hm with z | z
        · omega
        · exact hb m z
      have h4 : m = c := by omega
      subst h4
      exact q _ ((e2.trans e3).trans (Ex.new hp))
theorem max_of : ∀ ls : List Int, ls ≠ [] → ∃ m, m ∈ ls ∧ ∀ y ∈ ls, y ≤ m
  | [], h => absurd rfl h
  | [x], _ => ⟨x, List.mem_cons_self, fun y hy => by rw [List.mem_singleton.mp hy]; exact Int.le_refl _⟩
  | x :: y :: r, _ => by
    obtain ⟨m, h1, h2⟩ := max_of (y :: r) (by simp)
    by_cases e : m ≤ x
    · refine ⟨x, List.mem_cons_self, fun z hz => ?_⟩
      rcases List.mem_cons.mp hz with h | h
      · omega
      · have := h2 z h; omega
    · refine ⟨m, List.mem_cons_of_mem _ h1, fun z hz => ?_⟩
      rcases List.mem_cons.mp hz with h | h
      · omega
      · exact h2 z h
/-- max(xs) -/
theorem ev_maxL {l : Addr} {ls : List Int} {m : Int} (h : Ev ta σ H (.ref l)) (hs : SqL K H l (ls.map V.int)) (hm : m ∈ ls) (hall : ∀ y ∈ ls, y ≤ m) : Ev (tCB (rMax K) (tCons ta tNil)) σ H (.int m) := fun H1 e Q q =>
  h H1 e _ fun H2 e2 => ⟨l, ls, rfl, ex_l (e.trans e2) hs, List.length_pos_of_mem hm, fun n hn hal => by
    have h1 := hal m hm
    have h2 := hall n hn
    have : n = m := by omega
    subst this
    exact q H2 e2⟩
theorem sum_bd : ∀ (l : List Int) (B : Int), (∀ x ∈ l, 0 ≤ x ∧ x ≤ B) → 0 ≤ l.sum ∧ l.sum ≤ l.length * B
  | [], B, _ => by simp
  | x :: r, B, h => by
    have h1 := sum_bd r B fun y hy => h y (List.mem_cons_of_mem _ hy)
    have h2 := h x List.mem_cons_self
    have e : ((x :: r).length : Int) * B = r.length * B + B := by
      rw [List.length_cons, Int.natCast_add, Int.add_mul]
      simp
    rw [List.sum_cons, e]
    omega
/-- sum(f(x) for x in xs if b(x)) -/
theorem ev_sumLF {tt : TT} {Pt l : Addr} {cm : List (Option Nat)} {own : List Nat} {xs : List Int} (f : Int → Int) (b : Int → Bool) (h : Ev tl σ H (.ref l)) (hx : SqL K H l (xs.map V.int)) (hn : xs.length ≤ 1000) (tab : H Pt = some (TabX Pt))
    (hf : ∀ x ∈ xs, 0 ≤ f x ∧ f x ≤ 2 ^ 40) (hw : ∀ x, wipe ((captS cm σ).set 0 (some x)) own = captS cm σ) (ht : ∀ x ∈ xs, ∀ H1, Ex H H1 → EvT tt ((captS cm σ).set 0 (some (.int x))) H1 (b x))
    (he : ∀ x ∈ xs, b x = true → ∀ H1, Ex H H1 → Ev te ((captS cm σ).set 0 (some (.int x))) H1 (.int (f x))) :
    Ev (tSumG (tGx Pt (iList K tl) (gName 0) tt te cm own)) σ H (.int ((xs.filter b).map f).sum) := fun H1 e Q q =>
  h H1 e _ fun H3 e13 => by
    have e03 := e.trans e13
    have hxl : (xs.map V.int).length = xs.length := List.length_map _
    refine ⟨l, rfl, ⟨_, ex_l e03 hx⟩, e03 Pt _ tab, fun i m zs H' => m + i = xs.length ∧ Ex H3 H' ∧ zs = (((xs.take i).filter b).map f).map V.int, ⟨xs.length, by omega, Ex.refl _, rfl⟩, ?_⟩
    rintro i m zs H' ⟨hm, e4, rfl⟩
    have e04 := e03.trans e4
    by_cases hi : i < xs.length
    · right
      refine ⟨⟨_, _, ex_l e04 hx, int_at hi⟩, fun zs H5 => (m - 1) + (i + 1) = xs.length ∧ Ex H3 H5 ∧ zs = (((xs.take (i + 1)).filter b).map f).map V.int, fun zs H5 q => ⟨m - 1, by omega, q⟩, ?_⟩
      rintro v H5 ⟨rfl, hx1⟩
      have ex1 := (Option.some.inj ((int_at hi).symm.trans (hx1 _ (ex_l e04 hx)))).symm
      subst ex1
      have hxi : xs.getD i 0 = xs[i] := by rw [List.getD_eq_getElem?_getD, List.getElem?_eq_getElem hi] <;> rfl
      have hmem : xs.getD i 0 ∈ xs := by rw [hxi]; exact List.getElem_mem hi
      have htk : xs.take (i + 1) = xs.take i ++ [xs.getD i 0] := by rw [hxi]; exact (List.take_append_getElem hi).symm
      refine ⟨hw _, ht _ hmem _ e04 _ (Ex.refl _) _ fun H6 e6 => ?_⟩
      cases hb : b (xs.getD i 0) with
      | false =>
        rw [if_neg Bool.false_ne_true]
        refine ⟨by omega, e4.trans e6, ?_⟩
        rw [htk, List.filter_append, List.filter_cons, if_neg (by rw [hb]; decide), List.filter_nil, List.append_nil]
      | true =>
        rw [if_pos rfl]
        refine he _ hmem hb _ (e04.trans e6) _ (Ex.refl _) _ fun H7 e7 => ?_
        have hall : ∀ y ∈ ((xs.take i).filter b).map f, 0 ≤ y ∧ y ≤ 2 ^ 40 := fun y hy => by
          obtain ⟨x, hx2, rfl⟩ := List.mem_map.mp hy
          exact hf x (List.mem_of_mem_take (List.mem_filter.mp hx2).1)
        have hb1 := sum_bd _ _ hall
        have hb2 := hf _ hmem
        have hlen : (((xs.take i).filter b).map f).length ≤ i := by
          rw [List.length_map]
          exact Nat.le_trans (List.length_filter_le _ _) (by rw [List.length_take]; omega)
        have hB : ((((xs.take i).filter b).map f).length : Int) * 2 ^ 40 ≤ 1000 * 2 ^ 40 := by omega
        refine ⟨sz_lt (by rw [List.length_map]; omega), ⟨f _, rfl, ⟨by omega, by omega⟩, ?_⟩, by omega, (e4.trans e6).trans e7, ?_⟩
        · rw [vsum_ints]
          exact ⟨by omega, by omega⟩
        · rw [htk, List.filter_append, List.filter_cons, if_pos hb, List.filter_nil, List.map_append, List.map_append]
          rfl
    · left
      have hin : i = xs.length := by omega
      subst hin
      refine ⟨⟨_, ex_l e04 hx, by rw [hxl]; exact Nat.le_refl _⟩, ?_⟩
      show Q (.int (vsum _)) H'
      rw [vsum_ints, List.take_length]
      exact q H' (e13.trans e4)
/-- any(b(x) for x in xs) -/
theorem ev_anyL {Pt l : Addr} {cm : List (Option Nat)} {own : List Nat} {xs : List Int} (b : Int → Bool) (h : Ev tl σ H (.ref l)) (hx : SqL K H l (xs.map V.int)) (hn : xs.length ≤ 1000) (tab : H Pt = some (TabX Pt))
    (hw : ∀ x, wipe ((captS cm σ).set 0 (some x)) own = captS cm σ) (he : ∀ x ∈ xs, ∀ H1, Ex H H1 → Ev te ((captS cm σ).set 0 (some (.int x))) H1 (.bl (b x))) :
    Ev (tAnyG (tGx Pt (iList K tl) (gName 0) tYes te cm own)) σ H (.bl (xs.any b)) := fun H1 e Q q =>
  h H1 e _ fun H3 e13 => by
    have e03 := e.trans e13
    have hxl : (xs.map V.int).length = xs.length := List.length_map _
    refine ⟨l, rfl, ⟨_, ex_l e03 hx⟩, e03 Pt _ tab, fun i m zs H' => m + i = xs.length ∧ Ex H3 H' ∧ zs = (xs.take i).map fun x => V.bl (b x), ⟨xs.length, by omega, Ex.refl _, rfl⟩, ?_⟩
    rintro i m zs H' ⟨hm, e4, rfl⟩
    have e04 := e03.trans e4
    by_cases hi : i < xs.length
    · right
      refine ⟨⟨_, _, ex_l e04 hx, int_at hi⟩, fun zs H5 => (m - 1) + (i + 1) = xs.length ∧ Ex H3 H5 ∧ zs = (xs.take (i + 1)).map fun x => V.bl (b x), fun zs H5 q => ⟨m - 1, by omega, q⟩, ?_⟩
      rintro v H5 ⟨rfl, hx1⟩
      have ex1 := (Option.some.inj ((int_at hi).symm.trans (hx1 _ (ex_l e04 hx)))).symm
      subst ex1
      have hxi : xs.getD i 0 = xs[i] := by rw [List.getD_eq_getElem?_getD, List.getElem?_eq_getElem hi] <;> rfl
      have hmem : xs.getD i 0 ∈ xs := by rw [hxi]; exact List.getElem_mem hi
      have htk : xs.take (i + 1) = xs.take i ++ [xs.getD i 0] := by rw [hxi]; exact (List.take_append_getElem hi).symm
      refine ⟨hw _, tt_yes ?_⟩
      refine he _ hmem _ e04 _ (Ex.refl _) _ fun H7 e7 => ?_
      have hyes : b (xs.getD i 0) = true → xs.any b = true := fun z => List.any_eq_true.mpr ⟨_, hmem, z⟩
      refine ⟨sz_lt (by rw [List.length_map, List.length_take]; omega), ⟨_, rfl, fun z => ?_⟩, by omega, e4.trans e7, ?_⟩
      · have := hyes z
        rw [← this]
        exact q _ ((e13.trans e4).trans e7)
      · rw [htk, List.map_append]
        rfl
    · left
      have hin : i = xs.length := by omega
      subst hin
      refine ⟨⟨_, ex_l e04 hx, by rw [hxl]; exact Nat.le_refl _⟩, fun hno => ?_⟩
      rw [List.take_length] at hno
      have hr : xs.any b = false := by
        rw [List.any_eq_false]
        intro x hx2 hb
        exact hno _ (List.mem_map.mpr ⟨x, hx2, rfl⟩) (by rw [hb])
      rw [← hr]
      exact q H' (e13.trans e4)
end
end KC
set_option Elab.async false
set_option linter.all false
set_option maxRecDepth 100000
set_option maxHeartbeats 4000000
/-! Pairs (a key, a symbol) in a list, sorted. -/
namespace KC
open PySem PySem.Spec PyProof.Rows L2 StX GX Evl
def PrG (key : Nat → Int) (H : Hp) (ys : List V) (o : List Nat) : Prop := ys.length = o.length ∧ ∀ (j s : Nat), o[j]? = some s → ∃ t, ys[j]? = some (.ref t) ∧ H t = some (.tup [.int (key s), .int (s : Int)])
section
variable {key : Nat → Int} {H H' : Hp} {ys zs : List V} {o : List Nat}
theorem PrG.nil : PrG key H [] [] := ⟨rfl, fun j s h => by simp at h⟩
theorem PrG.ext (e : Ex H H') (h : PrG key H ys o) : PrG key H' ys o := ⟨h.1, fun j s hj => by
  obtain ⟨t, h1, h2⟩ := h.2 j s hj
  exact ⟨t, h1, e t _ h2⟩⟩
theorem PrG.put {p : Addr} {us ws : List V} (hp : H p = some (.lst us)) (h : PrG key H ys o) : PrG key (upd H p (.lst ws)) ys o := ⟨h.1, fun j s hj => by
  obtain ⟨t, h1, h2⟩ := h.2 j s hj
  exact ⟨t, h1, by rw [upd_ne (fun z => by rw [z, hp] at h2; cases h2)]; exact h2⟩⟩
theorem PrG.add {t : Addr} {s : Nat} (h : PrG key H ys o) (ht : H t = some (.tup [.int (key s), .int (s : Int)])) : PrG key H (ys ++ [.ref t]) (o ++ [s]) := by
  refine ⟨by rw [List.length_append, List.length_append, h.1] <;> rfl, fun j u hj => ?_⟩
  by_cases e : j < o.length
  · rw [List.getElem?_append_left e] at hj
    obtain ⟨w, h1, h2⟩ := h.2 j u hj
    exact ⟨w, by rw [List.getElem?_append_left (by rw [h.1]; exact e)]; exact h1, h2⟩
  · rw [List.getElem?_append_right (by omega)] at hj
    have hj0 : j - o.length = 0 := by
      have := (List.getElem?_eq_some_iff.mp hj).1
      simp at this
      omega
    rw [hj0] at hj
    have hu : s = u := by simpa using hj
    subst hu
    exact ⟨t, by rw [List.getElem?_append_right (by rw [h.1]; omega), h.1, hj0]; rfl, ht⟩
def keyOf (H : Hp) : V → Int × Int
  | .ref t => match H t with
    | some (.tup [.int a, .int b]) => (a, b)
    | _ => (0, 0)
  | _ => (0, 0)
theorem keyOf_tup {t : Addr} {a b : Int} (h : H t = some (.tup [.int a, .int b])) : keyOf H (.ref t) = (a, b) := by
  show (match H t with | some (.tup [.int a, .int b]) => (a, b) | _ => ((0 : Int), (0 : Int))) = _
  rw [h]
def symOf (H : Hp) (z : V) : Nat := (keyOf H z).2.toNat
theorem PrG.mem (h : PrG key H ys o) {z : V} (hz : z ∈ ys) : ∃ s t, s ∈ o ∧ z = .ref t ∧ H t = some (.tup [.int (key s), .int (s : Int)]) ∧ symOf H z = s := by
  obtain ⟨j, hj⟩ := List.mem_iff_getElem?.mp hz
  have hjl : j < o.length := by rw [← h.1]; exact (List.getElem?_eq_some_iff.mp hj).1
  obtain ⟨t, h1, h2⟩ := h.2 j _ (List.getElem?_eq_getElem hjl)
  rw [hj] at h1
  have e := Option.some.inj h1
  subst e
  exact ⟨_, t, List.getElem_mem hjl, rfl, h2, by unfold symOf; rw [keyOf_tup h2]; simp⟩
theorem PrG.syms (h : PrG key H ys o) : ys.map (symOf H) = o := by
  refine List.ext_getElem? fun j => ?_
  rw [List.getElem?_map]
  by_cases hj : j < o.length
  · obtain ⟨t, h1, h2⟩ := h.2 j _ (List.getElem?_eq_getElem hj)
    rw [h1, List.getElem?_eq_getElem hj]
    show some (symOf H (.ref t)) = _
    unfold symOf
    rw [keyOf_tup h2]
    simp
  · rw [List.getElem?_eq_none (by rw [h.1]; omega), List.getElem?_eq_none (by omega)]
    rfl
theorem PrG.sorted (h : PrG key H ys o) (hp : zs.Perm ys) (hs : SrtO.Srtd (ltP (keyOf H)) zs) (hn : o.Nodup) :
    PrG key H zs (zs.map (symOf H)) ∧ (zs.map (symOf H)).Perm o ∧ (zs.map (symOf H)).Pairwise fun a b => key a < key b ∨ (key a = key b ∧ a < b) := by
  have hperm : (zs.map (symOf H)).Perm o := by
    have := hp.map (symOf H)
    rwa [h.syms] at this
  refine ⟨⟨(List.length_map _).symm, fun j s hj => ?_⟩, hperm, ?_⟩
  · rw [List.getElem?_map] at hj
    cases hz : zs[j]? with
    | none => rw [hz] at hj; cases hj
    | some z =>
      rw [hz] at hj
      obtain ⟨s1, t, _, rfl, ht, es⟩ := h.mem (hp.mem_iff.mp (List.mem_of_getElem? hz))
      have e2 : s1 = s := by rw [← es]; exact Option.some.inj hj
      subst e2
      exact ⟨t, rfl, ht⟩
  · have hnd : (zs.map (symOf H)).Nodup := hperm.nodup_iff.mpr hn
    have hnd2 : zs.Pairwise fun a b => symOf H a ≠ symOf H b := List.pairwise_map.mp hnd
    refine List.pairwise_map.mpr ?_
    refine List.Pairwise.imp_of_mem (fun {a b} ha hb hab => ?_) (hs.and hnd2)
    obtain ⟨s1, t1, _, rfl, ht1, es1⟩ := h.mem (hp.mem_iff.mp ha)
    obtain ⟨s2, t2, _, rfl, ht2, es2⟩ := h.mem (hp.mem_iff.mp hb)
    obtain ⟨h4, h5⟩ := hab
    have h6 := SrtO.lexB_no.mp h4
    rw [keyOf_tup ht1, keyOf_tup ht2] at h6
    rw [es1, es2] at h5 ⊢
    simp only at h6
    omega
end
section
variable {K : PySem.W.Frag} {σ : L2.St} {H H' : Hp} {ta tb te : TE} {D : Ends} {tz : TS}
/-- sorted((key, symbol) for symbol, w in enumerate(xs) if ..): what comes of it -/
theorem tSort_use {ys : List V} {key : Nat → Int} {o : List Nat} {H1 : Hp} {R : Addr → Hp → Prop} (h : PrG key H1 ys o) (hn : o.Nodup) (q : ∀ p zs o', H1 p = none → PrG key (upd H1 p (.lst zs)) zs o' → o'.Perm o → (o'.Pairwise fun a b => key a < key b ∨ (key a = key b ∧ a < b)) → R p (upd H1 p (.lst zs))) :
    ∀ p, H1 p = none → rSortPO (.ref p) [] (upd H1 p (.lst ys)) fun _ H2 => R p H2 := fun p hp => by
  have e1 : Ex H1 (upd H1 p (.lst ys)) := Ex.new hp
  refine ⟨p, ys, keyOf H1, rfl, rfl, upd_same, fun y hy => ?_, fun zs hsr hst => ?_⟩
  · obtain ⟨s, t, _, rfl, ht, _⟩ := h.mem hy
    refine ⟨t, rfl, ?_⟩
    rw [keyOf_tup ht]
    exact e1 t _ ht
  · have hov : upd (upd H1 p (.lst ys)) p (.lst zs) = upd H1 p (.lst zs) := by
      funext b
      by_cases e : b = p
      · rw [e, upd_same, upd_same]
      · rw [upd_ne e, upd_ne e, upd_ne e]
    rw [hov]
    obtain ⟨h1, h2, h3⟩ := h.sorted hst.perm hsr hn
    exact q p zs _ hp (h1.ext (Ex.new hp)) h2 h3
/-- xs[i] = a new list -/
theorem s_setLL {l : Addr} {xs ys : List V} {j : Nat} (hl : H l = some (.lst xs)) (h : EvL te σ H ys) (ho : Ev ta σ H (.ref l)) (hi : Ev tb σ H (.int (j : Int))) (hj : j < xs.length) (k : ∀ p H1, H p = none → Ex H H1 → H1 p = some (.lst ys) → D.nx σ (upd H1 l (.lst (xs.set j (.ref p))))) :
    tAsg te (gSub ta tb rSetL) D σ H := h H (Ex.refl H) _ fun p H1 hp e1 h1 => ho H1 e1 _ fun H2 e2 => hi H2 (e1.trans e2) _ fun H3 e3 =>
  ⟨l, xs, (j : Int), j, rfl, rfl, ((e1.trans e2).trans e3) l _ hl, ixN_nat hj, k p H3 hp ((e1.trans e2).trans e3) ((e2.trans e3) p _ h1)⟩
theorem q_setLL {l : Addr} {xs ys : List V} {j : Nat} (hl : H l = some (.lst xs)) (h : EvL te σ H ys) (ho : Ev ta σ H (.ref l)) (hi : Ev tb σ H (.int (j : Int))) (hj : j < xs.length) (k : ∀ p H1, H p = none → Ex H H1 → H1 p = some (.lst ys) → tz D σ (upd H1 l (.lst (xs.set j (.ref p))))) :
    tSeq (tAsg te (gSub ta tb rSetL)) tz D σ H := s_setLL (D := { D with nx := tz D }) hl h ho hi hj k
theorem flat_rep (n : Nat) (v : V) : (List.replicate n [v]).flatten = List.replicate n v := by
  induction n with
  | zero => rfl
  | succ n ih => rw [List.replicate_succ, List.replicate_succ, List.flatten_cons, ih] <;> rfl
end
end KC
set_option Elab.async false
set_option linter.all false
set_option maxRecDepth 100000
set_option maxHeartbeats 4000000
/-! Objects: methods by the kind of the receiver's class, instances made, attributes. -/
namespace KC
open PySem PySem.Spec PyProof.Rows L2 GX Evl

/-- a method by the kind of its receiver's class: the class of kind i stands at Cl i -/
structure MCal (P : Program) (w : World) (K : PySem.W.Frag) (mg : Str → Option Value) (base : Heap) (Cl : Nat → Addr) (Is : Nat → Prop) (m : Str) (k : Nat) (ps : List Str) (sp : Nat → Sp) : Prop where
  out : ∀ i, Is i → Cls K (Cl i) ∧ ∃ f fd, Meth K (Cl i) m f ∧ Binds K fd ps [] ∧ FnOk P w K mg base CX0 k f fd ps (sp i)
def tMethD (Cl : Nat → Addr) (Is : Nat → Prop) (m : Str) (sp : Nat → Sp) (ta : TE) (t : TA) : TE := fun σ H Q => ta σ H fun x H1 => ∃ i a dx fs, Is i ∧ x = .ref a ∧ H1 a = some (.ins (Cl i) dx fs) ∧ fs.lookup m = none ∧
  t σ H1 fun vs H2 => sp i (x :: (vs ++ [])) H2 Q E0
section
variable {X : Cx} {k : Nat} {Cl : Nat → Addr} {Is : Nat → Prop} {ps : List Str} {sp : Nat → Sp} {m : Str} {pos apos : Pos} {e o : Expr} {es : List Expr} {ta : TE} {t : TA}
theorem pe_methD {pl : Sem Bool} (he : PE X o ta) (M : MCal X.prog X.w X.K X.mg X.base Cl Is m k ps sp) (hr : Room k X.A) (ha : PA X (e :: es) t)
    (hst : starEach (e :: es) X.env = (false, eval e X.env) :: starEach es X.env := by rfl) (hpl : (backTo pos (starEach es X.env)).any (·.1) = false := by rfl)
    (ht : eval (.Call (.Attribute o m apos) (e :: es) [] pos) X.env = (do
      let ov ← eval o X.env
      standAt apos.atName
      let (f, first) ← holding [ov] (getMethod ov m pl)
      callWith pos f first (backTo pos (starEach (e :: es) X.env)) (backToKw pos (keywordEach [] X.env))) := by rfl) :
    PE X (.Call (.Attribute o m apos) (e :: es) [] pos) (tMethD Cl Is m sp ta t) := by
  refine ⟨fun pins s σ H Q I h => ?_⟩
  refine PySem.W.methodCall_KW (pl := pl) (thn (he.run pins s σ H _ I h) fun u s1 ⟨x, H1, I1, rx, i, a, dx, fs, hi, ex, ea, l, q⟩ => ?_) ht
  subst ex
  obtain rfl : u = Value.ref a := rx
  obtain ⟨c, f, fd, hm, hb, F⟩ := M.out i hi
  refine getmeth_ok I1 ea c hm l ?_
  refine PySem.W.callWith_K (first := [.ref a]) (h₀ := X.base) I1.ok.mod.kin hm.kp (thn (ha.run pos pins s1 σ H1 _ I1 q) fun us s2 ⟨vs, H2, I2, r, q2⟩ => ⟨I2.kIn, ?_⟩) hst hpl
  exact run_fn (us := .ref a :: us) (vs := .ref a :: vs) F hr hb .nil pass0 I2 (.cons rfl r) q2
theorem pe_methD0 {pl : Sem Bool} (he : PE X o ta) (M : MCal X.prog X.w X.K X.mg X.base Cl Is m k ps sp) (hr : Room k X.A)
    (ht : eval (.Call (.Attribute o m apos) [] [] pos) X.env = (do
      let ov ← eval o X.env
      standAt apos.atName
      let (f, first) ← holding [ov] (getMethod ov m pl)
      callWith pos f first (backTo pos (starEach [] X.env)) (backToKw pos (keywordEach [] X.env))) := by rfl) :
    PE X (.Call (.Attribute o m apos) [] [] pos) (tMethD Cl Is m sp ta tNil) := by
  refine ⟨fun pins s σ H Q I h => ?_⟩
  refine PySem.W.methodCall_KW (pl := pl) (thn (he.run pins s σ H _ I h) fun u s1 ⟨x, H1, I1, rx, i, a, dx, fs, hi, ex, ea, l, q⟩ => ?_) ht
  subst ex
  obtain rfl : u = Value.ref a := rx
  obtain ⟨c, f, fd, hm, hb, F⟩ := M.out i hi
  refine getmeth_ok I1 ea c hm l ?_
  exact PySem.W.callWith_K0 (first := [.ref a]) I1.kIn hm.kp (run_fn (us := [.ref a]) (vs := [.ref a]) F hr hb .nil pass0 I1 (.cons rfl .nil) q)
end
/-- a class called by its name -/
structure CalM (P : Program) (w : World) (K : PySem.W.Frag) (mg : Str → Option Value) (base : Heap) (nm : Str) (C : Addr) (k : Nat) (ps : List Str) (sp : Sp) : Prop where
  out : ∃ f fd, mg nm = some (.ref C) ∧ Mk K C f ∧ Binds K fd ps [] ∧ FnOk P w K mg base CX0 k f fd ps sp
theorem pe_makeC {X : Cx} {nm : Str} {C : Addr} {k : Nat} {ps : List Str} {sp : Sp} {p pos : Pos} {e : Expr} {es : List Expr} {t : TA} (M : CalM X.prog X.w X.K X.mg X.base nm C k ps sp) (hr : Room (k + 1) X.A) (hg : Gl X nm) (ha : PA X (e :: es) t)
    (hdb : (nm == ("__debug__" : Str)) = false := by decide) (he : starEach (e :: es) X.env = (false, eval e X.env) :: starEach es X.env := by rfl) (hpl : (backTo pos (starEach es X.env)).any (·.1) = false := by rfl) :
    PE X (.Call (.Name nm p) (e :: es) [] pos) (tMake C sp [] E0 t) := by
  obtain ⟨f, fd, h1, h2, h3, h4⟩ := M.out
  exact pe_make h2 h4 hr hg h1 h3 .nil pass0 ha hdb he hpl
/-- xs[i] of a list, the index from 0 -/
def rIxL0 (K : PySem.W.Frag) : R2 := fun x y H Q => ∃ p xs, ∃ (i : Nat), ∃ v, x = .ref p ∧ y = .int (i : Int) ∧ SqL K H p xs ∧ xs[i]? = some v ∧ Q v H
theorem get_list {X : Cx} : PGet X (rIxL0 X.K) := by
  intro pins s σ H x y v u Q I rx ry h
  obtain ⟨p, xs, i, z, rfl, rfl, hq, he, q⟩ := h
  cases rx
  obtain ⟨t, rfl⟩ := ry
  obtain ⟨its, r, pl, hz⟩ := I.list hq
  obtain ⟨w, ew, rw'⟩ := r.get he
  have hn := line63
  have hl := r.length
  have hi := (List.getElem?_eq_some_iff.mp he).1
  refine wpAny_getItem_list pl.isList (by omega) (by omega) (x := w) ?_ ⟨z, H, I, rw', q⟩
  simpa using ew

/-! ### readings -/
section
variable {K : PySem.W.Frag} {σ : L2.St} {H H' : Hp} {ta tb te tx : TE} {v x : V} {D : Ends} {tz : TS} {a C dx : Addr} {fs : List (Str × V)} {f : Str}
theorem ev_fld (ha : Ev ta σ H (.ref a)) (h : H a = some (.ins C dx fs)) (c : Cls K C) (n : NoAttr K C f) (l : fs.lookup f = some v) : Ev (tFld K ta f) σ H v := fun H1 e Q q =>
  ha H1 e _ fun H2 e2 => ⟨a, C, dx, fs, v, rfl, (e.trans e2) a _ h, c, n, l, q H2 e2⟩
theorem s_fld (hv : Ev te σ H v) (ha : Ev ta σ H (.ref a)) (h : H a = some (.ins C dx fs)) (c : Cls K C) (n : NoAttr K C f) (hl : fs.length < 1000) (k : ∀ H1, Ex H H1 → D.nx σ (upd H1 a (.ins C dx (putF f v fs)))) : sFld K ta te f D σ H :=
  hv H (Ex.refl H) _ fun H1 e1 => ha H1 e1 _ fun H2 e2 => ⟨a, C, dx, fs, rfl, (e1.trans e2) a _ h, c, n, hl, k H2 (e1.trans e2)⟩
theorem q_fld (hv : Ev te σ H v) (ha : Ev ta σ H (.ref a)) (h : H a = some (.ins C dx fs)) (c : Cls K C) (n : NoAttr K C f) (hl : fs.length < 1000) (k : ∀ H1, Ex H H1 → tz D σ (upd H1 a (.ins C dx (putF f v fs)))) : tSeq (sFld K ta te f) tz D σ H :=
  s_fld (D := { D with nx := tz D }) hv ha h c n hl k
theorem s_fldL {xs : List V} (hv : EvL te σ H xs) (ha : Ev ta σ H (.ref a)) (h : H a = some (.ins C dx fs)) (c : Cls K C) (n : NoAttr K C f) (hl : fs.length < 1000) (k : ∀ p H1, H p = none → Ex H H1 → H1 p = some (.lst xs) → D.nx σ (upd H1 a (.ins C dx (putF f (.ref p) fs)))) : sFld K ta te f D σ H :=
  hv H (Ex.refl H) _ fun p H1 hp e1 h1 => ha H1 e1 _ fun H2 e2 => ⟨a, C, dx, fs, rfl, (e1.trans e2) a _ h, c, n, hl, k p H2 hp (e1.trans e2) (e2 p _ h1)⟩
theorem q_fldL {xs : List V} (hv : EvL te σ H xs) (ha : Ev ta σ H (.ref a)) (h : H a = some (.ins C dx fs)) (c : Cls K C) (n : NoAttr K C f) (hl : fs.length < 1000) (k : ∀ p H1, H p = none → Ex H H1 → H1 p = some (.lst xs) → tz D σ (upd H1 a (.ins C dx (putF f (.ref p) fs)))) : tSeq (sFld K ta te f) tz D σ H :=
  s_fldL (D := { D with nx := tz D }) hv ha h c n hl k
theorem ev_meth {Cl : Nat → Addr} {Is : Nat → Prop} {m : Str} {sp : Nat → Sp} {t : TA} {i : Nat} {vs : List V} (ha : Ev ta σ H (.ref a)) (hi : Is i) (h : H a = some (.ins (Cl i) dx fs)) (l : fs.lookup m = none) (ht : EvA t σ H vs) (hs : SpV (sp i) (.ref a :: (vs ++ [])) H v) : Ev (tMethD Cl Is m sp ta t) σ H v := fun H1 e Q q =>
  ha H1 e _ fun H2 e2 => ⟨i, a, dx, fs, hi, rfl, (e.trans e2) a _ h, l, ht H2 (e.trans e2) _ fun H3 e3 => hs H3 ((e.trans e2).trans e3) Q (fun H4 e4 => q H4 ((e2.trans e3).trans e4)) E0⟩
theorem cutV_to (xs : List V) (n : Nat) : cutV xs none (some (n : Int)) = xs.take n := by
  unfold cutV
  rw [HT.sIx_none, HT.sIx_nat, List.drop_zero, Nat.sub_zero]
  by_cases h : n ≤ xs.length
  · rw [Nat.min_eq_left h]
  · rw [Nat.min_eq_right (by omega), List.take_of_length_le (Nat.le_refl _), List.take_of_length_le (by omega)]
theorem s_augS {to ti : TE} {l : Addr} {xs : List V} {s : Nat} {p q : Int} {g : Int → Int → Int} (hl : H l = some (.lst xs)) (ho : Ev to σ H (.ref l)) (hi : Ev ti σ H (.int (s : Int))) (hx : xs[s]? = some (.int p)) (he : Ev te σ H (.int q)) (k : ∀ H1, Ex H H1 → D.nx σ (upd H1 l (.lst (xs.set s (.int (g p q)))))) :
    tAugS to ti te (rIxL0 K) (ipI g) rSetL D σ H :=
  ho H (Ex.refl H) _ fun H1 e1 => hi H1 e1 _ fun H2 e2 => ⟨l, xs, s, _, rfl, rfl, sq_of ((e1.trans e2) l _ hl), hx, he H2 (e1.trans e2) _ fun H3 e3 => ⟨p, q, rfl, rfl, l, xs, (s : Int), s, rfl, rfl, ((e1.trans e2).trans e3) l _ hl, ixN_nat ((List.getElem?_eq_some_iff.mp hx).1), k H3 ((e1.trans e2).trans e3)⟩⟩
theorem q_augS {to ti : TE} {l : Addr} {xs : List V} {s : Nat} {p q : Int} {g : Int → Int → Int} (hl : H l = some (.lst xs)) (ho : Ev to σ H (.ref l)) (hi : Ev ti σ H (.int (s : Int))) (hx : xs[s]? = some (.int p)) (he : Ev te σ H (.int q)) (k : ∀ H1, Ex H H1 → tz D σ (upd H1 l (.lst (xs.set s (.int (g p q)))))) :
    tSeq (tAugS to ti te (rIxL0 K) (ipI g) rSetL) tz D σ H := s_augS (D := { D with nx := tz D }) hl ho hi hx he k
/-- it gives something that is so -/
def EvP (te : TE) (σ : L2.St) (H : Hp) (R : V → Hp → Prop) : Prop := ∀ H1, Ex H H1 → ∀ Q : VK, (∀ v H2, Ex H1 H2 → R v H2 → Q v H2) → te σ H1 Q
theorem s_retP {R : V → Hp → Prop} (h : EvP te σ H R) (k : ∀ v H1, Ex H H1 → R v H1 → D.rt v H1) : tRet te D σ H := h H (Ex.refl H) _ k
theorem s_asgP {i : Nat} {R : V → Hp → Prop} (h : EvP te σ H R) (k : ∀ v H1, Ex H H1 → R v H1 → D.nx (σ.set i (some v)) H1) : tAsg te (gName i) D σ H := h H (Ex.refl H) _ k
theorem q_asgP {i : Nat} {R : V → Hp → Prop} (h : EvP te σ H R) (k : ∀ v H1, Ex H H1 → R v H1 → tz D (σ.set i (some v)) H1) : tSeq (tAsg te (gName i)) tz D σ H := h H (Ex.refl H) _ k
theorem q_fldP {R : V → Hp → Prop} (hv : EvP te σ H R) (ha : Ev ta σ H (.ref a)) (h : H a = some (.ins C dx fs)) (c : Cls K C) (n : NoAttr K C f) (hl : fs.length < 1000) (k : ∀ v H1 H2, Ex H H1 → R v H1 → Ex H1 H2 → tz D σ (upd H2 a (.ins C dx (putF f v fs)))) : tSeq (sFld K ta te f) tz D σ H :=
  hv H (Ex.refl H) _ fun v H1 e1 r => ha H1 e1 _ fun H2 e2 => ⟨a, C, dx, fs, rfl, (e1.trans e2) a _ h, c, n, hl, k v H1 H2 e1 r e2⟩
/-- [e for x in range(n)] whose items are new objects -/
theorem ep_lcR1 {ta : TA} {j n : Nat} {vs : List Nat} {R : V → Hp → Prop} (h : EvA ta σ H [.int (n : Int)]) (hn : n ≤ 40000) (hw : ∀ x, wipe ((wipe σ vs).set j (some x)) vs = wipe σ vs) (Pv : Hp → Addr → Nat → Hp → Prop)
    (h0 : ∀ H1 Dl, Ex H H1 → H1 Dl = none → Pv H1 Dl 0 (upd H1 Dl (.lst [])))
    (hs : ∀ H1 Dl i H', Ex H H1 → H1 Dl = none → i < n → Pv H1 Dl i H' → te ((wipe σ vs).set j (some (.int (i : Int)))) H' fun y H4 => ∃ acc, H4 Dl = some (.lst acc) ∧ acc.length < sizeLine ∧ Pv H1 Dl (i + 1) (upd H4 Dl (.lst (acc ++ [y]))))
    (hd : ∀ H1 Dl H', Ex H H1 → H1 Dl = none → Pv H1 Dl n H' → Ex H1 H' ∧ R (.ref Dl) H') : EvP (tLc (iRng1 ta) (gName j) tYes te vs) σ H R := fun H0 e0 Q q =>
  h H0 e0 _ fun H1 e1 => ⟨(n : Int), rfl, by omega, by omega, fun Dl hD => lc_range (lo := 0) (n := n) (Pv H1 Dl) (h0 H1 Dl (e0.trans e1) hD) (fun i H' hi p => by
    have e2 : (0 : Int) + (i : Int) = (i : Int) := Int.zero_add _
    show wipe ((wipe σ vs).set j (some (.int ((0 : Int) + (i : Int))))) vs = wipe σ vs ∧ tYes ((wipe σ vs).set j (some (.int ((0 : Int) + (i : Int))))) H' fun b H3 => _
    rw [e2]
    exact ⟨hw _, tt_yes (hs H1 Dl i H' (e0.trans e1) hD hi p)⟩) fun H' p => by
      obtain ⟨e3, r⟩ := hd H1 Dl H' (e0.trans e1) hD p
      exact q _ H' (e1.trans e3) r⟩
theorem ev_methP {Cl : Nat → Addr} {Is : Nat → Prop} {m : Str} {sp : Nat → Sp} {t : TA} {i : Nat} {vs : List V} {R : V → Hp → Prop} (ha : Ev ta σ H (.ref a)) (hi : Is i) (h : H a = some (.ins (Cl i) dx fs)) (l : fs.lookup m = none) (ht : EvA t σ H vs)
    (hs : ∀ H1, Ex H H1 → ∀ Q : VK, (∀ v H2, Ex H1 H2 → R v H2 → Q v H2) → sp i (.ref a :: (vs ++ [])) H1 Q E0) : EvP (tMethD Cl Is m sp ta t) σ H R := fun H1 e Q q =>
  ha H1 e _ fun H2 e2 => ⟨i, a, dx, fs, hi, rfl, (e.trans e2) a _ h, l, ht H2 (e.trans e2) _ fun H3 e3 => hs H3 ((e.trans e2).trans e3) Q (fun v H4 e4 r => q v H4 ((e2.trans e3).trans e4) r)⟩
/-- C(..) -/
theorem ev_make {sp : Sp} {t : TA} {vs : List V} {R : V → Hp → Prop} (ht : EvA t σ H vs)
    (hs : ∀ H1 x dx, Ex H H1 → H1 x = none → H1 dx = none → dx ≠ x → ∀ Q : VK, (∀ H2, Ex H1 H2 → R (.ref x) H2 → Q .non H2) → sp (.ref x :: (vs ++ [])) (upd (upd H1 dx (.own x)) x (.ins C dx [])) Q E0) : EvP (tMake C sp [] E0 t) σ H R := fun H1 e Q q =>
  ht H1 e _ fun H2 e2 x dx nx nd ne => hs H2 x dx (e.trans e2) nx nd ne _ fun H3 e3 r => ⟨rfl, q _ H3 (e2.trans e3) r⟩
theorem made_ex {x : Addr} (nx : H x = none) (nd : H dx = none) : Ex H (upd (upd H dx (.own x)) x (.ins C dx [])) := fun b o e => by
  rw [upd_ne (ne_of_none e nx), upd_ne (ne_of_none e nd)]
  exact e
/-- the heap behind a change that touches only what stands at F -/
def Kp (F : Addr → Prop) (H H' : Hp) : Prop := ∀ b o, H b = some o → ¬ F b → H' b = some o
theorem Kp.of_ex {F : Addr → Prop} (e : Ex H H') : Kp F H H' := fun b o h _ => e b o h
theorem Kp.trans {F : Addr → Prop} {H1 H2 H3 : Hp} (a : Kp F H1 H2) (b : Kp F H2 H3) : Kp F H1 H3 := fun x o h n => b x o (a x o h n) n
theorem Kp.put {F : Addr → Prop} {p : Addr} {o : HO} (a : Kp F H H') (h : F p) : Kp F H (upd H' p o) := fun b u e n => by
  have hb : b ≠ p := fun z => by
    subst z
    exact n h
  rw [upd_ne hb]
  exact a b u e n
theorem Kp.mono {F G : Addr → Prop} (a : Kp F H H') (h : ∀ b o, F b → H b = some o → G b) : Kp G H H' := fun b o e n => a b o e fun f => n (h b o f e)
theorem Kp.ex {F : Addr → Prop} (a : Kp F H H') (h : ∀ b, F b → H b = none) : Ex H H' := fun b o e => a b o e fun f => by
  rw [h b f] at e
  cases e
/-- for i, x in enumerate(xs) -/
theorem s_forEn {tu : TS} {xs : List V} {j k : Nat} (h : Ev ta σ H (.ref a)) (hx : SqL K H a xs) (Pv : Nat → L2.St → Hp → Prop) (h0 : ∀ H1, Ex H H1 → Pv 0 σ H1) (hl : ∀ i σ' H', Pv i σ' H' → SqL K H' a xs)
    (hs : ∀ i x σ' H' H2, xs[i]? = some x → Pv i σ' H' → Ex H' H2 → tu { D with nx := Pv (i + 1), ct := Pv (i + 1), bk := D.nx } ((σ'.set j (some (.int (i : Int)))).set k (some x)) H2) (hd : ∀ σ' H', Pv xs.length σ' H' → D.nx σ' H') :
    tFor (iEnum K (tCons ta tNil)) (gTup K 2 (gCons (gName j) (gCons (gName k) gNil))) tu D σ H :=
  h H (Ex.refl H) _ fun H1 e => ⟨a, xs, rfl, ex_l e hx, fun i m σ' H' => m + i = xs.length ∧ Pv i σ' H', ⟨xs.length, by omega, h0 H1 e⟩, fun i m σ' H' ⟨hm, p⟩ => by
    by_cases hi : i < xs.length
    · right
      obtain ⟨v, hv⟩ : ∃ v, xs[i]? = some v := ⟨_, List.getElem?_eq_getElem hi⟩
      refine ⟨⟨xs, v, hl i σ' H' p, hv⟩, Pv (i + 1), fun σ2 H2 q => ⟨m - 1, by omega, by omega, q⟩, ?_⟩
      rintro x H5 ⟨t, v2, rfl, ht, rfl, hv2⟩
      have ev := Option.some.inj (hv.symm.trans (hv2 _ (hl i σ' H' p)))
      subst ev
      exact ⟨t, _, rfl, .inl (.inl upd_same), rfl, _, _, rfl, _, _, rfl, rfl, hs i v σ' H' _ hv p (Ex.new ht)⟩
    · left
      have e2 : i = xs.length := by omega
      subst e2
      exact ⟨⟨xs, hl _ σ' H' p, by omega⟩, hd σ' H' p⟩⟩
theorem q_forEn {tu : TS} {xs : List V} {j k : Nat} (h : Ev ta σ H (.ref a)) (hx : SqL K H a xs) (Pv : Nat → L2.St → Hp → Prop) (h0 : ∀ H1, Ex H H1 → Pv 0 σ H1) (hl : ∀ i σ' H', Pv i σ' H' → SqL K H' a xs)
    (hs : ∀ i x σ' H' H2, xs[i]? = some x → Pv i σ' H' → Ex H' H2 → tu { D with nx := Pv (i + 1), ct := Pv (i + 1), bk := tz D } ((σ'.set j (some (.int (i : Int)))).set k (some x)) H2) (hd : ∀ σ' H', Pv xs.length σ' H' → tz D σ' H') :
    tSeq (tFor (iEnum K (tCons ta tNil)) (gTup K 2 (gCons (gName j) (gCons (gName k) gNil))) tu) tz D σ H := s_forEn (D := { D with nx := tz D }) h hx Pv h0 hl hs hd
/-- if t: xs[j] = e -/
theorem q_ifSetL {t : TT} {b : Bool} {l : Addr} {xs ys : List V} {j : Nat} (hl : H l = some (.lst xs)) (h : EvT t σ H b) (he : b = true → Ev te σ H v) (ho : b = true → Ev ta σ H (.ref l)) (hi : b = true → Ev tb σ H (.int (j : Int))) (hj : b = true → j < xs.length) (hy : ys = if b = true then xs.set j v else xs)
    (k : ∀ H1, Kp (fun b => b = l) H H1 → (∀ x, H1 x = none → H x = none) → H1 l = some (.lst ys) → tz D σ H1) : tSeq (tIfS t (tAsg te (gSub ta tb rSetL)) tNext) tz D σ H := by
  refine q_when h (fun hb H1 e1 => ?_) (fun hb H1 e1 => ?_)
  · refine s_setL (e1 _ _ hl) ((he hb).mono e1) ((ho hb).mono e1) ((hi hb).mono e1) (hj hb) fun H2 e2 => k _ (Kp.put (Kp.of_ex (e1.trans e2)) rfl) (fun x hx => ?_) (by rw [upd_same, hy, if_pos hb])
    by_cases z : x = l
    · rw [z, upd_same] at hx
      cases hx
    · rw [upd_ne z] at hx
      exact fresh_back (e1.trans e2) hx
  · exact k H1 (Kp.of_ex e1) (fun x hx => fresh_back e1 hx) (by rw [hy, if_neg (by rw [hb]; decide)]; exact e1 _ _ hl)
theorem putF_putF {f : Str} {u v : V} : ∀ fs : List (Str × V), putF f v (putF f u fs) = putF f v fs
  | [] => by
    show (if f = f then [(f, v)] else (f, u) :: putF f v []) = [(f, v)]
    rw [if_pos rfl]
  | (g, y) :: r => by
    by_cases h : g = f
    · show putF f v (if g = f then (g, u) :: r else _) = (if g = f then (g, v) :: r else _)
      rw [if_pos h, if_pos h]
      show (if g = f then (g, v) :: r else _) = _
      rw [if_pos h]
    · show putF f v (if g = f then (g, u) :: r else (g, y) :: putF f u r) = (if g = f then (g, v) :: r else (g, y) :: putF f v r)
      rw [if_neg h, if_neg h]
      show (if g = f then (g, v) :: putF f u r else (g, y) :: putF f v (putF f u r)) = _
      rw [if_neg h, putF_putF r]
end
end KC
set_option linter.all false
/-! The models, without the program. -/
namespace M08
structure Md where
  kind : Nat
  rows : List (List Int)
  now : Nat
  step : Int
  limit : Int
def Md.row (m : Md) : List Int := m.rows.getD m.now []
/-- a row behind a symbol that was learned -/
def grown (ws : List Int) (s : Nat) (st lim : Int) : List Int :=
  if lim < (ws.set s (ws.getD s 0 + st)).sum then (ws.set s (ws.getD s 0 + st)).map (fun w => (w + 1) / 2) else ws.set s (ws.getD s 0 + st)
def Md.learn (m : Md) (s : Nat) : Md := if m.kind = 0 then m else { m with rows := m.rows.set m.now (grown m.row s m.step m.limit), now := if m.kind = 2 then s else m.now }
def Md.fresh (m : Md) : Md := if m.kind = 0 then m else { m with rows := m.rows.map (fun r => List.replicate r.length 1), now := 0 }
def RowOk (n : Nat) (r : List Int) : Prop := r.length = n ∧ (∀ x ∈ r, 0 ≤ x) ∧ 1 ≤ r.sum
structure Ok (n : Nat) (m : Md) : Prop where
  n1 : 1 ≤ n
  n64 : n ≤ 64
  rows : ∀ r ∈ m.rows, RowOk n r
  now : m.now < m.rows.length
  one : m.kind ≤ 1 → m.rows.length = 1
  two : m.kind = 2 → m.rows.length = n
  step : 0 ≤ m.step
  kd : m.kind ≤ 2
theorem Ok.row {n : Nat} {m : Md} (h : Ok n m) : RowOk n m.row := by
  unfold Md.row
  rw [List.getD_eq_getElem?_getD, List.getElem?_eq_getElem h.now]
  exact h.rows _ (List.getElem_mem h.now)
theorem row_at {n : Nat} {m : Md} (h : Ok n m) : m.rows[m.now]? = some m.row := by
  unfold Md.row
  rw [List.getD_eq_getElem?_getD, List.getElem?_eq_getElem h.now]
  rfl
theorem sum_nonneg : ∀ l : List Int, (∀ x ∈ l, 0 ≤ x) → 0 ≤ l.sum
  | [], _ => by simp
  | a :: r, h => by
    have h1 := h a (by simp)
    have h2 := sum_nonneg r fun x hx => h x (by simp [hx])
    simp only [List.sum_cons]
    omega
theorem sum_set : ∀ (l : List Int) (s : Nat) (d : Int), s < l.length → (l.set s (l.getD s 0 + d)).sum = l.sum + d
  | [], s, d, h => by simp at h
  | a :: r, 0, d, h => by
    simp only [List.getD_cons_zero, List.set_cons_zero, List.sum_cons]
    omega
  | a :: r, s + 1, d, h => by
    have := sum_set r s d (by simpa using h)
    simp only [List.getD_cons_succ, List.set_cons_succ, List.sum_cons, this]
    omega
theorem sum_half : ∀ l : List Int, (∀ x ∈ l, 0 ≤ x) → (∀ x ∈ l.map (fun w : Int => (w + 1) / 2), 0 ≤ x) ∧ l.sum ≤ 2 * (l.map (fun w : Int => (w + 1) / 2)).sum
  | [], _ => by simp
  | a :: r, h => by
    have h1 := h a (by simp)
    obtain ⟨h2, h3⟩ := sum_half r fun x hx => h x (by simp [hx])
    refine ⟨fun x hx => ?_, ?_⟩
    · rw [List.map_cons, List.mem_cons] at hx
      rcases hx with rfl | hx
      · omega
      · exact h2 x hx
    · simp only [List.map_cons, List.sum_cons]
      omega
theorem set_nonneg {l : List Int} {s : Nat} {v : Int} (h : ∀ x ∈ l, 0 ≤ x) (hv : 0 ≤ v) : ∀ x ∈ l.set s v, 0 ≤ x := fun x hx => by
  rcases List.mem_or_eq_of_mem_set hx with h1 | h1
  · exact h x h1
  · rw [h1]
    exact hv
theorem getD_nonneg {l : List Int} (h : ∀ x ∈ l, 0 ≤ x) (s : Nat) : 0 ≤ l.getD s 0 := by
  rw [List.getD_eq_getElem?_getD]
  cases e : l[s]? with
  | none => simp
  | some x => exact h x (List.mem_of_getElem? e)
theorem grown_ok {n : Nat} {ws : List Int} {s : Nat} {st lim : Int} (h : RowOk n ws) (hs : s < n) (h0 : 0 ≤ st) : RowOk n (grown ws s st lim) := by
  obtain ⟨h1, h2, h3⟩ := h
  have hz := set_nonneg (s := s) h2 (show 0 ≤ ws.getD s 0 + st by have := getD_nonneg h2 s; omega)
  have hsum := sum_set ws s st (by omega)
  unfold grown
  split
  · obtain ⟨a, b⟩ := sum_half _ hz
    exact ⟨by rw [List.length_map, List.length_set, h1], a, by omega⟩
  · exact ⟨by rw [List.length_set, h1], hz, by omega⟩
theorem Ok.learn {n : Nat} {m : Md} (h : Ok n m) {s : Nat} (hs : s < n) : Ok n (m.learn s) := by
  unfold Md.learn
  split
  · exact h
  · rename_i hk
    refine ⟨h.n1, h.n64, fun r hr => ?_, ?_, fun z => ?_, fun z => ?_, h.step, h.kd⟩
    · rcases List.mem_or_eq_of_mem_set hr with h1 | h1
      · exact h.rows r h1
      · rw [h1]
        exact grown_ok h.row hs h.step
    · show (if m.kind = 2 then s else m.now) < (m.rows.set m.now (grown m.row s m.step m.limit)).length
      rw [List.length_set]
      split
      · rename_i e
        rw [h.two e]
        exact hs
      · exact h.now
    · show (m.rows.set m.now (grown m.row s m.step m.limit)).length = 1
      rw [List.length_set]
      exact h.one z
    · show (m.rows.set m.now (grown m.row s m.step m.limit)).length = n
      rw [List.length_set]
      exact h.two z
theorem rep_ok {n : Nat} (h : 1 ≤ n) : RowOk n (List.replicate n 1) := by
  refine ⟨by simp, fun x hx => ?_, ?_⟩
  · rw [(List.mem_replicate.mp hx).2]
    omega
  · have : ∀ k : Nat, (List.replicate k (1 : Int)).sum = k := fun k => by
      induction k with
      | zero => simp
      | succ k ih => rw [List.replicate_succ, List.sum_cons, ih]; omega
    rw [this]
    omega
theorem Ok.fresh {n : Nat} {m : Md} (h : Ok n m) : Ok n m.fresh := by
  unfold Md.fresh
  split
  · exact h
  · refine ⟨h.n1, h.n64, fun r hr => ?_, ?_, fun z => ?_, fun z => ?_, h.step, h.kd⟩
    · obtain ⟨r2, h2, rfl⟩ := List.mem_map.mp hr
      rw [(h.rows r2 h2).1]
      exact rep_ok h.n1
    · show 0 < (m.rows.map _).length
      rw [List.length_map]
      have := h.now
      omega
    · show (m.rows.map _).length = 1
      rw [List.length_map]
      exact h.one z
    · show (m.rows.map _).length = n
      rw [List.length_map]
      exact h.two z
theorem map_rep {n : Nat} {rows : List (List Int)} (h : ∀ r ∈ rows, RowOk n r) : rows.map (fun r => List.replicate r.length (1 : Int)) = List.replicate rows.length (List.replicate n 1) := by
  induction rows with
  | nil => rfl
  | cons a r ih =>
    rw [List.map_cons, ih fun x hx => h x (by simp [hx]), (h a (by simp)).1, List.length_cons, List.replicate_succ]
theorem fresh_rows {n : Nat} {m : Md} (h : Ok n m) (hk : m.kind ≠ 0) : m.fresh = { m with rows := List.replicate m.rows.length (List.replicate n 1), now := 0 } := by
  unfold Md.fresh
  rw [if_neg hk, map_rep h.rows]
theorem learn_fresh {n : Nat} {m : Md} (h : Ok n m) {s : Nat} (hs : s < n) : (m.learn s).fresh = m.fresh := by
  have h2 := h.learn hs
  by_cases hk : m.kind = 0
  · unfold Md.learn
    rw [if_pos hk]
  · have e : (m.learn s).kind = m.kind := by unfold Md.learn; rw [if_neg hk]
    have e3 : (m.learn s).rows.length = m.rows.length := by unfold Md.learn; rw [if_neg hk]; simp
    have e4 : (m.learn s).step = m.step := by unfold Md.learn; rw [if_neg hk]
    have e5 : (m.learn s).limit = m.limit := by unfold Md.learn; rw [if_neg hk]
    rw [fresh_rows h2 (by rw [e]; exact hk), fresh_rows h hk, e3, e, e4, e5]
/-- the symbol at a number -/
def symAt : List Int → Int → Nat
  | [], _ => 0
  | w :: r, x => if x < w then 0 else symAt r (x - w) + 1
theorem symAt_spec : ∀ (l : List Int) (x : Int), (∀ y ∈ l, 0 ≤ y) → 0 ≤ x → x < l.sum → symAt l x < l.length ∧ (l.take (symAt l x)).sum ≤ x ∧ x < (l.take (symAt l x + 1)).sum
  | [], x, _, h0, h => by simp at h; omega
  | w :: r, x, hl, h0, h => by
    unfold symAt
    split
    · rename_i hx
      exact ⟨by simp, by simpa using h0, by simpa using hx⟩
    · rename_i hx
      rw [List.sum_cons] at h
      obtain ⟨h1, h2, h3⟩ := symAt_spec r (x - w) (fun y hy => hl y (by simp [hy])) (by omega) (by omega)
      refine ⟨by simpa using h1, ?_, ?_⟩
      · rw [List.take_succ_cons, List.sum_cons]
        omega
      · rw [List.take_succ_cons, List.sum_cons]
        omega
theorem take_nonneg {l : List Int} (h : ∀ y ∈ l, 0 ≤ y) (k : Nat) : 0 ≤ (l.take k).sum := sum_nonneg _ fun x hx => h x (List.mem_of_mem_take hx)
/-- ahead of the symbol the sums are not above the number -/
theorem symAt_before : ∀ (l : List Int) (x : Int) (j : Nat), (∀ y ∈ l, 0 ≤ y) → j ≤ symAt l x → (l.take j).sum ≤ x ∨ j = 0
  | _, _, 0, _, _ => .inr rfl
  | [], x, j + 1, _, h => by simp [symAt] at h
  | w :: r, x, j + 1, hl, h => by
    left
    unfold symAt at h
    split at h
    · omega
    · rename_i hx
      rw [List.take_succ_cons, List.sum_cons]
      rcases symAt_before r (x - w) j (fun y hy => hl y (by simp [hy])) (by omega) with h1 | h1
      · omega
      · subst h1
        simp
        omega
theorem sum_take_succ : ∀ (l : List Int) (k : Nat), k < l.length → (l.take (k + 1)).sum = (l.take k).sum + l.getD k 0
  | [], k, h => by simp at h
  | a :: r, 0, h => by simp
  | a :: r, k + 1, h => by
    have := sum_take_succ r k (by simpa using h)
    rw [List.take_succ_cons, List.sum_cons, this, List.take_succ_cons, List.sum_cons, List.getD_cons_succ]
    omega
end M08
set_option Elab.async false
set_option linter.all false
set_option maxRecDepth 100000
set_option maxHeartbeats 4000000
namespace K16
open PySem PySem.Spec PyProof.Rows L2 StX GX KC Evl M08
def topS (i : Nat) : Stmt := PySem.Challenge.pw_kraftroom_k16_forms_of_a_block.main.body.getD i (.Pass ⟨0, 0, 0, 0⟩)
abbrev s_wall : Stmt := topS 0
theorem sc_wall : FnScope ["k"] ["k"] (defScope s_wall) := ⟨rfl, rfl, rfl, by decide +kernel, rfl, by decide +kernel, by decide +kernel⟩
abbrev s_field_bits : Stmt := topS 2
theorem sc_field_bits : FnScope ["number", "width", "at"] ["number", "width"] (defScope s_field_bits) := ⟨rfl, rfl, rfl, by decide +kernel, rfl, by decide +kernel, by decide +kernel⟩
abbrev s_gamma_bits : Stmt := topS 4
theorem sc_gamma_bits : FnScope ["n", "count"] ["n"] (defScope s_gamma_bits) := ⟨rfl, rfl, rfl, by decide +kernel, rfl, by decide +kernel, by decide +kernel⟩
abbrev s_narrowed : Stmt := topS 7
theorem sc_narrowed : FnScope ["span", "model", "symbol", "low", "width", "whole", "total"] ["span", "model", "symbol"] (defScope s_narrowed) := ⟨rfl, rfl, rfl, by decide +kernel, rfl, by decide +kernel, by decide +kernel⟩
abbrev s_interval : Stmt := topS 8
theorem sc_interval : FnScope ["model", "message", "teller", "span", "symbol"] ["model", "message"] (defScope s_interval) := ⟨rfl, rfl, rfl, by decide +kernel, rfl, by decide +kernel, by decide +kernel⟩
abbrev s_least_exponent : Stmt := topS 9
theorem sc_least_exponent : FnScope ["width", "whole", "exponent"] ["width", "whole"] (defScope s_least_exponent) := ⟨rfl, rfl, rfl, by decide +kernel, rfl, by decide +kernel, by decide +kernel⟩
abbrev s_holds : Stmt := topS 10
theorem sc_holds : FnScope ["span", "number", "count", "low", "width", "whole"] ["span", "number", "count"] (defScope s_holds) := ⟨rfl, rfl, rfl, by decide +kernel, rfl, by decide +kernel, by decide +kernel⟩
abbrev s_first_number : Stmt := topS 11
theorem sc_first_number : FnScope ["span", "count", "low", "_", "whole"] ["span", "count"] (defScope s_first_number) := ⟨rfl, rfl, rfl, by decide +kernel, rfl, by decide +kernel, by decide +kernel⟩
abbrev s_encode_message : Stmt := topS 12
theorem sc_encode_message : FnScope ["model", "message", "span", "count"] ["model", "message"] (defScope s_encode_message) := ⟨rfl, rfl, rfl, by decide +kernel, rfl, by decide +kernel, by decide +kernel⟩
abbrev s_ranks : Stmt := topS 15
theorem sc_ranks : FnScope ["weights", "order", "_", "symbol"] ["weights"] (defScope s_ranks) := ⟨rfl, rfl, rfl, by decide +kernel, rfl, by decide +kernel, by decide +kernel⟩
abbrev s_rests : Stmt := topS 16
theorem sc_rests : FnScope ["weights", "sums", "weight"] ["weights"] (defScope s_rests) := ⟨rfl, rfl, rfl, by decide +kernel, rfl, by decide +kernel, by decide +kernel⟩
abbrev s_word_counts : Stmt := topS 17
theorem sc_word_counts : FnScope ["limit", "depth", "free", "left"] ["limit", "depth", "free", "left"] (defScope s_word_counts) := ⟨rfl, rfl, rfl, by decide +kernel, rfl, by decide +kernel, by decide +kernel⟩
abbrev s_stage_choices : Stmt := topS 18
theorem sc_stage_choices : FnScope ["sums", "limit", "stage", "depth", "m", "free", "left", "found", "a"] ["sums", "limit", "stage"] (defScope s_stage_choices) := ⟨rfl, rfl, rfl, by decide +kernel, rfl, by decide +kernel, by decide +kernel⟩
abbrev s_reached_stages : Stmt := topS 19
theorem sc_reached_stages : FnScope ["weights", "limit", "sums", "found", "waiting", "following", "stage", "choice"] ["weights", "limit"] (defScope s_reached_stages) := ⟨rfl, rfl, rfl, by decide +kernel, rfl, by decide +kernel, by decide +kernel⟩
abbrev s_least_sum : Stmt := topS 20
theorem sc_least_sum : FnScope ["choice", "known", "_", "price", "following"] ["choice", "known"] (defScope s_least_sum) := ⟨rfl, rfl, rfl, by decide +kernel, rfl, by decide +kernel, by decide +kernel⟩
abbrev s_stage_values : Stmt := topS 21
theorem sc_stage_values : FnScope ["stages", "known", "stage", "sums", "choice", "total"] ["stages"] (defScope s_stage_values) := ⟨rfl, rfl, rfl, by decide +kernel, rfl, by decide +kernel, by decide +kernel⟩
abbrev s_least_lengths : Stmt := topS 22
theorem sc_least_lengths : FnScope ["weights", "limit", "stages", "known", "order", "lengths", "stage", "depth", "m", "_", "best", "choice", "a", "symbol"] ["weights", "limit"] (defScope s_least_lengths) := ⟨rfl, rfl, rfl, by decide +kernel, rfl, by decide +kernel, by decide +kernel⟩
abbrev s_low_in : Stmt := topS 24
theorem sc_low_in : FnScope ["weights", "symbol"] ["weights", "symbol"] (defScope s_low_in) := ⟨rfl, rfl, rfl, by decide +kernel, rfl, by decide +kernel, by decide +kernel⟩
abbrev s_Counts_init : Stmt := inClass (topS 25) 0
theorem sc_Counts_init : FnScope ["self", "weights"] ["self", "weights"] (defScope s_Counts_init) := ⟨rfl, rfl, rfl, by decide +kernel, rfl, by decide +kernel, by decide +kernel⟩
abbrev s_Counts_size : Stmt := inClass (topS 25) 1
theorem sc_Counts_size : FnScope ["self"] ["self"] (defScope s_Counts_size) := ⟨rfl, rfl, rfl, by decide +kernel, rfl, by decide +kernel, by decide +kernel⟩
abbrev s_Counts_total : Stmt := inClass (topS 25) 2
theorem sc_Counts_total : FnScope ["self"] ["self"] (defScope s_Counts_total) := ⟨rfl, rfl, rfl, by decide +kernel, rfl, by decide +kernel, by decide +kernel⟩
abbrev s_Counts_low : Stmt := inClass (topS 25) 3
theorem sc_Counts_low : FnScope ["self", "symbol"] ["self", "symbol"] (defScope s_Counts_low) := ⟨rfl, rfl, rfl, by decide +kernel, rfl, by decide +kernel, by decide +kernel⟩
abbrev s_Counts_weight : Stmt := inClass (topS 25) 4
theorem sc_Counts_weight : FnScope ["self", "symbol"] ["self", "symbol"] (defScope s_Counts_weight) := ⟨rfl, rfl, rfl, by decide +kernel, rfl, by decide +kernel, by decide +kernel⟩
abbrev s_Counts_symbol_at : Stmt := inClass (topS 25) 5
theorem sc_Counts_symbol_at : FnScope ["self", "number"] ["self", "number"] (defScope s_Counts_symbol_at) := ⟨rfl, rfl, rfl, by decide +kernel, rfl, by decide +kernel, by decide +kernel⟩
abbrev s_Counts_learn : Stmt := inClass (topS 25) 6
theorem sc_Counts_learn : FnScope ["self", "symbol"] ["self", "symbol"] (defScope s_Counts_learn) := ⟨rfl, rfl, rfl, by decide +kernel, rfl, by decide +kernel, by decide +kernel⟩
abbrev s_Counts_fresh : Stmt := inClass (topS 25) 7
theorem sc_Counts_fresh : FnScope ["self"] ["self"] (defScope s_Counts_fresh) := ⟨rfl, rfl, rfl, by decide +kernel, rfl, by decide +kernel, by decide +kernel⟩
abbrev s_Learner_init : Stmt := inClass (topS 26) 0
theorem sc_Learner_init : FnScope ["self", "size", "step", "limit"] ["self", "size", "step", "limit"] (defScope s_Learner_init) := ⟨rfl, rfl, rfl, by decide +kernel, rfl, by decide +kernel, by decide +kernel⟩
abbrev s_Learner_size : Stmt := inClass (topS 26) 1
theorem sc_Learner_size : FnScope ["self"] ["self"] (defScope s_Learner_size) := ⟨rfl, rfl, rfl, by decide +kernel, rfl, by decide +kernel, by decide +kernel⟩
abbrev s_Learner_total : Stmt := inClass (topS 26) 2
theorem sc_Learner_total : FnScope ["self"] ["self"] (defScope s_Learner_total) := ⟨rfl, rfl, rfl, by decide +kernel, rfl, by decide +kernel, by decide +kernel⟩
abbrev s_Learner_low : Stmt := inClass (topS 26) 3
theorem sc_Learner_low : FnScope ["self", "symbol"] ["self", "symbol"] (defScope s_Learner_low) := ⟨rfl, rfl, rfl, by decide +kernel, rfl, by decide +kernel, by decide +kernel⟩
abbrev s_Learner_weight : Stmt := inClass (topS 26) 4
theorem sc_Learner_weight : FnScope ["self", "symbol"] ["self", "symbol"] (defScope s_Learner_weight) := ⟨rfl, rfl, rfl, by decide +kernel, rfl, by decide +kernel, by decide +kernel⟩
abbrev s_Learner_symbol_at : Stmt := inClass (topS 26) 5
theorem sc_Learner_symbol_at : FnScope ["self", "number"] ["self", "number"] (defScope s_Learner_symbol_at) := ⟨rfl, rfl, rfl, by decide +kernel, rfl, by decide +kernel, by decide +kernel⟩
abbrev s_Learner_learn : Stmt := inClass (topS 26) 6
theorem sc_Learner_learn : FnScope ["self", "symbol", "weight"] ["self", "symbol"] (defScope s_Learner_learn) := ⟨rfl, rfl, rfl, by decide +kernel, rfl, by decide +kernel, by decide +kernel⟩
abbrev s_Learner_fresh : Stmt := inClass (topS 26) 7
theorem sc_Learner_fresh : FnScope ["self"] ["self"] (defScope s_Learner_fresh) := ⟨rfl, rfl, rfl, by decide +kernel, rfl, by decide +kernel, by decide +kernel⟩
abbrev s_words : Stmt := topS 28
theorem sc_words : FnScope ["lengths", "found", "number", "depth", "order", "length", "symbol"] ["lengths"] (defScope s_words) := ⟨rfl, rfl, rfl, by decide +kernel, rfl, by decide +kernel, by decide +kernel⟩
abbrev s_write_symbols : Stmt := topS 29
theorem sc_write_symbols : FnScope ["lengths", "message", "table", "symbol", "bit"] ["lengths", "message"] (defScope s_write_symbols) := ⟨rfl, rfl, rfl, by decide +kernel, rfl, by decide +kernel, by decide +kernel⟩
abbrev s_symbol_width : Stmt := topS 36
theorem sc_symbol_width : FnScope ["size"] ["size"] (defScope s_symbol_width) := ⟨rfl, rfl, rfl, by decide +kernel, rfl, by decide +kernel, by decide +kernel⟩
abbrev s_block_counts : Stmt := topS 37
theorem sc_block_counts : FnScope ["size", "block", "counts", "symbol"] ["size", "block"] (defScope s_block_counts) := ⟨rfl, rfl, rfl, by decide +kernel, rfl, by decide +kernel, by decide +kernel⟩
abbrev s_block_lengths : Stmt := topS 38
theorem sc_block_lengths : FnScope ["counts", "occurring", "symbol", "count", "lengths", "found", "length"] ["counts"] (defScope s_block_lengths) := ⟨rfl, rfl, rfl, by decide +kernel, rfl, by decide +kernel, by decide +kernel⟩
abbrev s_model_bits : Stmt := topS 39
theorem sc_model_bits : FnScope ["model", "block", "code"] ["model", "block"] (defScope s_model_bits) := ⟨rfl, rfl, rfl, by decide +kernel, rfl, by decide +kernel, by decide +kernel⟩
abbrev s_field_body : Stmt := topS 40
theorem sc_field_body : FnScope ["size", "block", "width", "symbol", "bit"] ["size", "block"] (defScope s_field_body) := ⟨rfl, rfl, rfl, by decide +kernel, rfl, by decide +kernel, by decide +kernel⟩
abbrev s_prefix_body : Stmt := topS 41
theorem sc_prefix_body : FnScope ["size", "block", "lengths", "told", "length", "bit"] ["size", "block"] (defScope s_prefix_body) := ⟨rfl, rfl, rfl, by decide +kernel, rfl, by decide +kernel, by decide +kernel⟩
abbrev s_counts_body : Stmt := topS 42
theorem sc_counts_body : FnScope ["size", "block", "counts", "told", "count", "bit"] ["size", "block"] (defScope s_counts_body) := ⟨rfl, rfl, rfl, by decide +kernel, rfl, by decide +kernel, by decide +kernel⟩
abbrev s_learner_body : Stmt := topS 43
theorem sc_learner_body : FnScope ["size", "block"] ["size", "block"] (defScope s_learner_body) := ⟨rfl, rfl, rfl, by decide +kernel, rfl, by decide +kernel, by decide +kernel⟩
abbrev s_body : Stmt := topS 45
theorem sc_body : FnScope ["size", "block", "form", "make"] ["size", "block", "form"] (defScope s_body) := ⟨rfl, rfl, rfl, by decide +kernel, rfl, by decide +kernel, by decide +kernel⟩
abbrev s_write_block : Stmt := topS 46
theorem sc_write_block : FnScope ["size", "block", "start", "bodies", "form", "counts", "bits"] ["size", "block"] (defScope s_write_block) := ⟨rfl, rfl, rfl, by decide +kernel, rfl, by decide +kernel, by decide +kernel⟩
abbrev s_law_cell : Stmt := topS 48
theorem sc_law_cell : FnScope ["script", "k"] ["script", "k"] (defScope s_law_cell) := ⟨rfl, rfl, rfl, by decide +kernel, rfl, by decide +kernel, by decide +kernel⟩
abbrev s_law_block : Stmt := topS 49
theorem sc_law_block : FnScope ["script", "first", "most", "size", "cell", "block", "k", "one", "symbol", "j"] ["script", "first", "most", "size"] (defScope s_law_block) := ⟨rfl, rfl, rfl, by decide +kernel, rfl, by decide +kernel, by decide +kernel⟩
abbrev s_law_gamma : Stmt := topS 50
theorem sc_law_gamma : FnScope ["n", "width", "k"] ["n"] (defScope s_law_gamma) := ⟨rfl, rfl, rfl, by decide +kernel, rfl, by decide +kernel, by decide +kernel⟩
abbrev s_law_width : Stmt := topS 51
theorem sc_law_width : FnScope ["size", "width", "k"] ["size"] (defScope s_law_width) := ⟨rfl, rfl, rfl, by decide +kernel, rfl, by decide +kernel, by decide +kernel⟩
abbrev s_law_lengths : Stmt := topS 52
theorem sc_law_lengths : FnScope ["counts", "present", "k", "lengths", "count", "found"] ["counts"] (defScope s_law_lengths) := ⟨rfl, rfl, rfl, by decide +kernel, rfl, by decide +kernel, by decide +kernel⟩
abbrev s_law_body : Stmt := topS 53
theorem sc_law_body : FnScope ["size", "block", "form", "width", "bits", "symbol", "k", "counts", "one", "lengths", "length", "code", "count"] ["size", "block", "form"] (defScope s_law_body) := ⟨rfl, rfl, rfl, by decide +kernel, rfl, by decide +kernel, by decide +kernel⟩
abbrev s_law : Stmt := topS 54
theorem sc_law : FnScope ["script", "size", "block", "given", "counts", "k", "one", "best", "bodies", "form", "found"] ["script"] (defScope s_law) := ⟨rfl, rfl, rfl, by decide +kernel, rfl, by decide +kernel, by decide +kernel⟩
structure Txt (K : PySem.W.Frag) (Cl : Nat → Addr) : Prop where
  c0 : Cls K (Cl 0)
  c1 : Cls K (Cl 1)
  w0 : NoAttr K (Cl 0) "weights"
  w1 : NoAttr K (Cl 1) "weights"
  s1 : NoAttr K (Cl 1) "step"
  l1 : NoAttr K (Cl 1) "limit"
/-! attributes -/
def fC (l : Addr) : List (Str × V) := putF "weights" (.ref l) []
def fL0 (st lim : Int) : List (Str × V) := putF "limit" (.int lim) (putF "step" (.int st) [])
def fL (st lim : Int) (l : Addr) : List (Str × V) := putF "weights" (.ref l) (fL0 st lim)
theorem fC_w (l : Addr) : (fC l).lookup ("weights" : Str) = some (.ref l) := by
  unfold fC
  rw [lookup_putF, if_pos rfl]
theorem fC_no (l : Addr) {m : Str} (h : ¬ m = "weights") : (fC l).lookup m = none := by
  unfold fC
  rw [lookup_putF, if_neg h] <;> rfl
theorem fC_len (l : Addr) : (fC l).length < 1000 := by show 1 < 1000; decide
theorem fL_w {st lim : Int} {l : Addr} : (fL st lim l).lookup ("weights" : Str) = some (.ref l) := by
  unfold fL
  rw [lookup_putF, if_pos rfl]
theorem fL_l {st lim : Int} {l : Addr} : (fL st lim l).lookup ("limit" : Str) = some (.int lim) := by
  unfold fL fL0
  rw [lookup_putF, if_neg (by decide +kernel), lookup_putF, if_pos rfl]
theorem fL_s {st lim : Int} {l : Addr} : (fL st lim l).lookup ("step" : Str) = some (.int st) := by
  unfold fL fL0
  rw [lookup_putF, if_neg (by decide +kernel), lookup_putF, if_neg (by decide +kernel), lookup_putF, if_pos rfl]
theorem fL_no {st lim : Int} {l : Addr} {m : Str} (h : ¬ m = "weights") (h2 : ¬ m = "limit") (h3 : ¬ m = "step") : (fL st lim l).lookup m = none := by
  unfold fL fL0
  rw [lookup_putF, if_neg h, lookup_putF, if_neg h2, lookup_putF, if_neg h3] <;> rfl
theorem len_put (f : Str) (v : V) (fs : List (Str × V)) {n : Nat} (h : fs.length ≤ n) : (putF f v fs).length ≤ n + 1 := Nat.le_trans (length_putF f v fs) (Nat.succ_le_succ h)
theorem fL0_len {st lim : Int} : (fL0 st lim).length ≤ 2 := len_put _ _ _ (len_put _ _ _ (Nat.le_refl 0))
theorem fL_len {st lim : Int} {l : Addr} : (fL st lim l).length < 1000 := Nat.lt_of_le_of_lt (len_put _ _ _ fL0_len) (by decide)
/-! what stands in the heap -/
def CntAt (Cl : Nat → Addr) (H : Hp) (p l : Addr) (ws : List Int) : Prop := (∃ dx, H p = some (.ins (Cl 0) dx (fC l))) ∧ H l = some (.lst (ws.map V.int))
def LrnAt (Cl : Nat → Addr) (H : Hp) (p l : Addr) (st lim : Int) (ws : List Int) : Prop := (∃ dx, H p = some (.ins (Cl 1) dx (fL st lim l))) ∧ H l = some (.lst (ws.map V.int))
theorem LrnAt.ext {Cl : Nat → Addr} {H H' : Hp} {p l : Addr} {st lim : Int} {ws : List Int} (e : Ex H H') (h : LrnAt Cl H p l st lim ws) : LrnAt Cl H' p l st lim ws := by
  obtain ⟨⟨dx, h1⟩, h2⟩ := h
  exact ⟨⟨dx, e _ _ h1⟩, e _ _ h2⟩
theorem CntAt.ext {Cl : Nat → Addr} {H H' : Hp} {p l : Addr} {ws : List Int} (e : Ex H H') (h : CntAt Cl H p l ws) : CntAt Cl H' p l ws := by
  obtain ⟨⟨dx, h1⟩, h2⟩ := h
  exact ⟨⟨dx, e _ _ h1⟩, e _ _ h2⟩
def MAt (Cl : Nat → Addr) (H : Hp) (p : Addr) (m : Md) (F : Addr → Prop) : Prop :=
  (m.kind = 0 ∧ ∃ ws l, m.rows = [ws] ∧ m.now = 0 ∧ CntAt Cl H p l ws ∧ F = fun b => b = p ∨ b = l) ∨
  (m.kind = 1 ∧ ∃ ws l, m.rows = [ws] ∧ m.now = 0 ∧ LrnAt Cl H p l m.step m.limit ws ∧ F = fun b => b = p ∨ b = l) ∨ False
theorem MAt.ext {Cl : Nat → Addr} {H H' : Hp} {p : Addr} {m : Md} {F : Addr → Prop} (e : Ex H H') (h : MAt Cl H p m F) : MAt Cl H' p m F := by
  rcases h with ⟨k, ws, l, a, b, c, d⟩ | ⟨k, ws, l, a, b, c, d⟩ | h
  · exact .inl ⟨k, ws, l, a, b, c.ext e, d⟩
  · exact .inr (.inl ⟨k, ws, l, a, b, c.ext e, d⟩)
  · exact h.elim
theorem MAt.foot {Cl : Nat → Addr} {H : Hp} {p : Addr} {m : Md} {F : Addr → Prop} (h : MAt Cl H p m F) : ∀ b, F b → H b ≠ none := by
  have ne : ∀ {b : Addr} {o : HO}, H b = some o → H b ≠ none := fun h z => by rw [h] at z; cases z
  rcases h with ⟨k, ws, l, a, b, ⟨⟨dx, c⟩, c2⟩, rfl⟩ | ⟨k, ws, l, a, b, ⟨⟨dx, c⟩, c2⟩, rfl⟩ | h
  · rintro b (rfl | rfl)
    · exact ne c
    · exact ne c2
  · rintro b (rfl | rfl)
    · exact ne c
    · exact ne c2
  · exact h.elim
theorem MAt.kd {Cl : Nat → Addr} {H : Hp} {p : Addr} {m : Md} {F : Addr → Prop} (h : MAt Cl H p m F) : m.kind ≤ 1 := by
  rcases h with ⟨k, _⟩ | ⟨k, _⟩ | h
  · omega
  · omega
  · exact h.elim
section
variable {P : Program} {w : World} {K : PySem.W.Frag} {mg : Str → Option Value} {base : Heap} {Cl : Nat → Addr}
/-! ### the two helpers -/
def spLowIn (K : PySem.W.Frag) : Sp := fun vs H Q _ => ∃ (l : Addr) (ws : List Int) (s : Nat), vs = [.ref l, .int (s : Int)] ∧ SqL K H l (ws.map V.int) ∧ RetV (.int (ws.take s).sum) H Q
theorem ok_low_in {f : Addr} {fd : FuncData} {k : Nat} (F : Fun K "low_in" "low_in" s_low_in f fd) (B : Bs mg) : FnOk P w K mg base CX0 (k + 1) f fd ["weights", "symbol"] (spLowIn K) := by
  refine F.ok sc_low_in (fun vs H Q E h => ?_) (fun cdv A outer s H vs Q E hr h => ?_)
  · obtain ⟨l, ws, s, rfl, _⟩ := h
    rfl
  · obtain ⟨l, ws, s, rfl, hs, q⟩ := h
    refine ⟨_, (pss_one (ps_ret (pe_callB (cr_sum rfl) (by rfl) B.sum (by decide +kernel) (pa_cons (pe_slice sl_list (pv 0) po_none (po_some (pv 1))) pa_nil)))), ?_⟩
    refine s_ret (ev_sumL (ns := ws.take s) ?_) fun H1 e1 => q H1 e1
    rw [List.map_take, ← cutV_to]
    exact el_sl (ev_var rfl) eo_none (eo_some (ev_var rfl)) hs
theorem spv_low_in {H : Hp} {l : Addr} {ws : List Int} {s : Nat} (hs : SqL K H l (ws.map V.int)) : SpV (spLowIn K) ([.ref l, .int (s : Int)] ++ []) H (.int (ws.take s).sum) := fun H1 e1 Q q E => ⟨l, ws, s, rfl, ex_l e1 hs, q⟩
end
end K16
set_option Elab.async false
set_option linter.all false
set_option maxRecDepth 100000
set_option maxHeartbeats 4000000
namespace K16
open PySem PySem.Spec PyProof.Rows L2 StX GX KC Evl M08
/-! ### the promises of the methods, by the kind of the model -/
def spSize (Cl : Nat → Addr) (i : Nat) : Sp := fun vs H Q _ => ∃ (p : Addr) (m : Md) (F : Addr → Prop) (n : Nat), vs = [.ref p] ∧ m.kind = i ∧ MAt Cl H p m F ∧ Ok n m ∧ RetV (.int (n : Int)) H Q
def spTotal (Cl : Nat → Addr) (i : Nat) : Sp := fun vs H Q _ => ∃ (p : Addr) (m : Md) (F : Addr → Prop) (n : Nat), vs = [.ref p] ∧ m.kind = i ∧ MAt Cl H p m F ∧ Ok n m ∧ RetV (.int m.row.sum) H Q
def spLow (Cl : Nat → Addr) (i : Nat) : Sp := fun vs H Q _ => ∃ (p : Addr) (m : Md) (F : Addr → Prop) (n s : Nat), vs = [.ref p, .int (s : Int)] ∧ m.kind = i ∧ MAt Cl H p m F ∧ Ok n m ∧ RetV (.int (m.row.take s).sum) H Q
def spWeight (Cl : Nat → Addr) (i : Nat) : Sp := fun vs H Q _ => ∃ (p : Addr) (m : Md) (F : Addr → Prop) (n s : Nat), vs = [.ref p, .int (s : Int)] ∧ m.kind = i ∧ MAt Cl H p m F ∧ Ok n m ∧ s < n ∧ RetV (.int (m.row.getD s 0)) H Q
def spSym (Cl : Nat → Addr) (i : Nat) : Sp := fun vs H Q _ => ∃ (p : Addr) (m : Md) (F : Addr → Prop) (n : Nat) (x : Int), vs = [.ref p, .int x] ∧ m.kind = i ∧ MAt Cl H p m F ∧ Ok n m ∧ 0 ≤ x ∧ x < m.row.sum ∧ RetV (.int (symAt m.row x : Int)) H Q
def spLearn (Cl : Nat → Addr) (i : Nat) : Sp := fun vs H Q _ => ∃ (p : Addr) (m : Md) (F : Addr → Prop) (n s : Nat), vs = [.ref p, .int (s : Int)] ∧ m.kind = i ∧ MAt Cl H p m F ∧ Ok n m ∧ s < n ∧
  ∀ H' F', MAt Cl H' p (m.learn s) F' → Kp F H H' → (∀ b, F' b → F b ∨ H b = none) → Q .non H'
def spFresh (Cl : Nat → Addr) (i : Nat) : Sp := fun vs H Q _ => ∃ (p : Addr) (m : Md) (F : Addr → Prop) (n : Nat), vs = [.ref p] ∧ m.kind = i ∧ MAt Cl H p m F ∧ Ok n m ∧
  ∀ p' H' F', Ex H H' → MAt Cl H' p' m.fresh F' → (∀ b, F' b → H b = none) → Q (.ref p') H'
def spInitC (K : PySem.W.Frag) (Cl : Nat → Addr) : Sp := fun vs H Q _ => ∃ (p a dx : Addr) (ws : List Int), vs = [.ref p, .ref a] ∧ H p = some (.ins (Cl 0) dx []) ∧ SqL K H a (ws.map V.int) ∧
  ∀ H' l, H l = none → CntAt Cl H' p l ws → Kp (fun b => b = p) H H' → Q .non H'
def spInitL (Cl : Nat → Addr) : Sp := fun vs H Q _ => ∃ (p dx : Addr) (n : Nat) (st lim : Int), vs = [.ref p, .int (n : Int), .int st, .int lim] ∧ H p = some (.ins (Cl 1) dx []) ∧ n ≤ 64 ∧
  ∀ H' l, H l = none → LrnAt Cl H' p l st lim (List.replicate n 1) → Kp (fun b => b = p) H H' → Q .non H'
theorem mat_l {Cl : Nat → Addr} {H : Hp} {p l : Addr} {st lim : Int} {ws : List Int} (h : LrnAt Cl H p l st lim ws) : MAt Cl H p ⟨1, [ws], 0, st, lim⟩ (fun b => b = p ∨ b = l) := .inr (.inl ⟨rfl, ws, l, rfl, rfl, h, rfl⟩)
theorem ok_l {n : Nat} {ws : List Int} {st lim : Int} (h1 : 1 ≤ n) (h2 : n ≤ 64) (h : RowOk n ws) (h0 : 0 ≤ st) : Ok n ⟨1, [ws], 0, st, lim⟩ := by
  refine ⟨h1, h2, fun r hr => ?_, Nat.zero_lt_one, fun _ => rfl, fun z => absurd (show (1 : Nat) = 2 from z) (by decide), h0, show (1 : Nat) ≤ 2 by decide⟩
  rw [List.mem_singleton.mp hr]
  exact h
theorem MAt.k0 {Cl : Nat → Addr} {H : Hp} {p : Addr} {m : Md} {F : Addr → Prop} (h : MAt Cl H p m F) (k : m.kind = 0) : ∃ ws l, m.rows = [ws] ∧ m.now = 0 ∧ m.row = ws ∧ CntAt Cl H p l ws ∧ F = fun b => b = p ∨ b = l := by
  rcases h with ⟨_, ws, l, a, b, c, d⟩ | ⟨k2, _⟩ | h
  · exact ⟨ws, l, a, b, by unfold Md.row; rw [a, b] <;> rfl, c, d⟩
  · rw [k2] at k; cases k
  · exact h.elim
theorem MAt.k1 {Cl : Nat → Addr} {H : Hp} {p : Addr} {m : Md} {F : Addr → Prop} (h : MAt Cl H p m F) (k : m.kind = 1) : ∃ ws l, m.rows = [ws] ∧ m.now = 0 ∧ m.row = ws ∧ LrnAt Cl H p l m.step m.limit ws ∧ F = fun b => b = p ∨ b = l := by
  rcases h with ⟨k2, _⟩ | ⟨_, ws, l, a, b, c, d⟩ | h
  · rw [k2] at k; cases k
  · exact ⟨ws, l, a, b, by unfold Md.row; rw [a, b] <;> rfl, c, d⟩
  · exact h.elim
section
variable {P : Program} {w : World} {K : PySem.W.Frag} {mg : Str → Option Value} {base : Heap} {Cl : Nat → Addr}
abbrev LowIn (P : Program) (w : World) (K : PySem.W.Frag) (mg : Str → Option Value) (base : Heap) : Prop := Cal P w K mg base "low_in" 1 ["weights", "symbol"] (spLowIn K)
theorem ok_Counts_size {f : Addr} {fd : FuncData} {k : Nat} (F : Fun K "size" "Counts.size" s_Counts_size f fd) (B : Bs mg) (T : Txt K Cl) : FnOk P w K mg base CX0 (k + 1) f fd ["self"] (spSize Cl 0) := by
  refine F.ok sc_Counts_size (fun vs H Q E h => ?_) (fun cdv A outer s H vs Q E hr h => ?_)
  · obtain ⟨p, m, Fp, n, rfl, _⟩ := h
    rfl
  · obtain ⟨p, m, Fp, n, rfl, hk, hm, hok, h⟩ := h
    obtain ⟨ws, l, e1, e2, erow, ⟨⟨dx, hp⟩, hl⟩, eF⟩ := hm.k0 hk
    have hrow := hok.row
    rw [erow] at hrow
    refine ⟨_, (pss_one (ps_ret (pe_callB call_len_seq (by rfl) B.len PySem.boot_len (pa_cons (pe_fld (pv 0) rfl) pa_nil)))), ?_⟩
    refine s_ret (ev_is (ev_len (K := K) (ev_fld (ev_var rfl) hp T.c0 T.w0 (fC_w l)) (sq_of hl)) (by rw [List.length_map, hrow.1])) fun H1 e1 => h H1 e1
theorem ok_Counts_total {f : Addr} {fd : FuncData} {k : Nat} (F : Fun K "total" "Counts.total" s_Counts_total f fd) (B : Bs mg) (T : Txt K Cl) : FnOk P w K mg base CX0 (k + 1) f fd ["self"] (spTotal Cl 0) := by
  refine F.ok sc_Counts_total (fun vs H Q E h => ?_) (fun cdv A outer s H vs Q E hr h => ?_)
  · obtain ⟨p, m, Fp, n, rfl, _⟩ := h
    rfl
  · obtain ⟨p, m, Fp, n, rfl, hk, hm, hok, h⟩ := h
    obtain ⟨ws, l, e1, e2, erow, ⟨⟨dx, hp⟩, hl⟩, eF⟩ := hm.k0 hk
    have hrow := hok.row
    rw [erow] at hrow
    refine ⟨_, (pss_one (ps_ret (pe_callB (cr_sum rfl) (by rfl) B.sum (by decide +kernel) (pa_cons (pe_fld (pv 0) rfl) pa_nil)))), ?_⟩
    rw [erow] at h
    exact s_ret (ev_sumLa (ev_fld (ev_var rfl) hp T.c0 T.w0 (fC_w l)) (sq_of hl)) fun H1 e1 => h H1 e1
theorem ok_Counts_low {f : Addr} {fd : FuncData} {k : Nat} (F : Fun K "low" "Counts.low" s_Counts_low f fd) (B : Bs mg) (T : Txt K Cl) (C_low_in : LowIn P w K mg base) : FnOk P w K mg base CX0 (k + 2) f fd ["self", "symbol"] (spLow Cl 0) := by
  refine F.ok sc_Counts_low (fun vs H Q E h => ?_) (fun cdv A outer s H vs Q E hr h => ?_)
  · obtain ⟨p, m, Fp, n, s_, rfl, _⟩ := h
    rfl
  · obtain ⟨p, m, Fp, n, s_, rfl, hk, hm, hok, h⟩ := h
    obtain ⟨ws, l, e1, e2, erow, ⟨⟨dx, hp⟩, hl⟩, eF⟩ := hm.k0 hk
    have hrow := hok.row
    rw [erow] at hrow
    refine ⟨_, (pss_one (ps_ret (pe_callC C_low_in (hr.mono (by omega)) (by rfl) (pa_cons (pe_fld (pv 0) rfl) (pa_cons (pv 1) pa_nil))))), ?_⟩
    rw [erow] at h
    exact s_ret (ev_call (ea2 (ev_fld (ev_var rfl) hp T.c0 T.w0 (fC_w l)) (ev_var rfl)) (spv_low_in (sq_of hl))) fun H1 e1 => h H1 e1
theorem ok_Counts_weight {f : Addr} {fd : FuncData} {k : Nat} (F : Fun K "weight" "Counts.weight" s_Counts_weight f fd) (B : Bs mg) (T : Txt K Cl) : FnOk P w K mg base CX0 (k + 1) f fd ["self", "symbol"] (spWeight Cl 0) := by
  refine F.ok sc_Counts_weight (fun vs H Q E h => ?_) (fun cdv A outer s H vs Q E hr h => ?_)
  · obtain ⟨p, m, Fp, n, s_, rfl, _⟩ := h
    rfl
  · obtain ⟨p, m, Fp, n, s_, rfl, hk, hm, hok, h⟩ := h
    obtain ⟨ws, l, e1, e2, erow, ⟨⟨dx, hp⟩, hl⟩, eF⟩ := hm.k0 hk
    have hrow := hok.row
    rw [erow] at hrow
    refine ⟨_, (pss_one (ps_ret (pe_ix ix_list (pe_fld (pv 0) rfl) (pv 1) (fun _ _ => rfl)))), ?_⟩
    obtain ⟨hs, h⟩ := h
    rw [erow] at h
    have hsl : s_ < ws.length := by rw [hrow.1]; exact hs
    exact s_ret (ev_op (ev_fld (ev_var rfl) hp T.c0 T.w0 (fC_w l)) (ev_var (v := .int (s_ : Int)) rfl) (rv_ixL (sq_of hl) (atI_at rfl hsl))) fun H1 e1 => h H1 e1
theorem ok_Learner_size {f : Addr} {fd : FuncData} {k : Nat} (F : Fun K "size" "Learner.size" s_Learner_size f fd) (B : Bs mg) (T : Txt K Cl) : FnOk P w K mg base CX0 (k + 1) f fd ["self"] (spSize Cl 1) := by
  refine F.ok sc_Learner_size (fun vs H Q E h => ?_) (fun cdv A outer s H vs Q E hr h => ?_)
  · obtain ⟨p, m, Fp, n, rfl, _⟩ := h
    rfl
  · obtain ⟨p, m, Fp, n, rfl, hk, hm, hok, h⟩ := h
    obtain ⟨ws, l, e1, e2, erow, ⟨⟨dx, hp⟩, hl⟩, eF⟩ := hm.k1 hk
    have hrow := hok.row
    rw [erow] at hrow
    refine ⟨_, (pss_one (ps_ret (pe_callB call_len_seq (by rfl) B.len PySem.boot_len (pa_cons (pe_fld (pv 0) rfl) pa_nil)))), ?_⟩
    refine s_ret (ev_is (ev_len (K := K) (ev_fld (ev_var rfl) hp T.c1 T.w1 (fL_w)) (sq_of hl)) (by rw [List.length_map, hrow.1])) fun H1 e1 => h H1 e1
theorem ok_Learner_total {f : Addr} {fd : FuncData} {k : Nat} (F : Fun K "total" "Learner.total" s_Learner_total f fd) (B : Bs mg) (T : Txt K Cl) : FnOk P w K mg base CX0 (k + 1) f fd ["self"] (spTotal Cl 1) := by
  refine F.ok sc_Learner_total (fun vs H Q E h => ?_) (fun cdv A outer s H vs Q E hr h => ?_)
  · obtain ⟨p, m, Fp, n, rfl, _⟩ := h
    rfl
  · obtain ⟨p, m, Fp, n, rfl, hk, hm, hok, h⟩ := h
    obtain ⟨ws, l, e1, e2, erow, ⟨⟨dx, hp⟩, hl⟩, eF⟩ := hm.k1 hk
    have hrow := hok.row
    rw [erow] at hrow
    refine ⟨_, (pss_one (ps_ret (pe_callB (cr_sum rfl) (by rfl) B.sum (by decide +kernel) (pa_cons (pe_fld (pv 0) rfl) pa_nil)))), ?_⟩
    rw [erow] at h
    exact s_ret (ev_sumLa (ev_fld (ev_var rfl) hp T.c1 T.w1 (fL_w)) (sq_of hl)) fun H1 e1 => h H1 e1
theorem ok_Learner_low {f : Addr} {fd : FuncData} {k : Nat} (F : Fun K "low" "Learner.low" s_Learner_low f fd) (B : Bs mg) (T : Txt K Cl) (C_low_in : LowIn P w K mg base) : FnOk P w K mg base CX0 (k + 2) f fd ["self", "symbol"] (spLow Cl 1) := by
  refine F.ok sc_Learner_low (fun vs H Q E h => ?_) (fun cdv A outer s H vs Q E hr h => ?_)
  · obtain ⟨p, m, Fp, n, s_, rfl, _⟩ := h
    rfl
  · obtain ⟨p, m, Fp, n, s_, rfl, hk, hm, hok, h⟩ := h
    obtain ⟨ws, l, e1, e2, erow, ⟨⟨dx, hp⟩, hl⟩, eF⟩ := hm.k1 hk
    have hrow := hok.row
    rw [erow] at hrow
    refine ⟨_, (pss_one (ps_ret (pe_callC C_low_in (hr.mono (by omega)) (by rfl) (pa_cons (pe_fld (pv 0) rfl) (pa_cons (pv 1) pa_nil))))), ?_⟩
    rw [erow] at h
    exact s_ret (ev_call (ea2 (ev_fld (ev_var rfl) hp T.c1 T.w1 (fL_w)) (ev_var rfl)) (spv_low_in (sq_of hl))) fun H1 e1 => h H1 e1
theorem ok_Learner_weight {f : Addr} {fd : FuncData} {k : Nat} (F : Fun K "weight" "Learner.weight" s_Learner_weight f fd) (B : Bs mg) (T : Txt K Cl) : FnOk P w K mg base CX0 (k + 1) f fd ["self", "symbol"] (spWeight Cl 1) := by
  refine F.ok sc_Learner_weight (fun vs H Q E h => ?_) (fun cdv A outer s H vs Q E hr h => ?_)
  · obtain ⟨p, m, Fp, n, s_, rfl, _⟩ := h
    rfl
  · obtain ⟨p, m, Fp, n, s_, rfl, hk, hm, hok, h⟩ := h
    obtain ⟨ws, l, e1, e2, erow, ⟨⟨dx, hp⟩, hl⟩, eF⟩ := hm.k1 hk
    have hrow := hok.row
    rw [erow] at hrow
    refine ⟨_, (pss_one (ps_ret (pe_ix ix_list (pe_fld (pv 0) rfl) (pv 1) (fun _ _ => rfl)))), ?_⟩
    obtain ⟨hs, h⟩ := h
    rw [erow] at h
    have hsl : s_ < ws.length := by rw [hrow.1]; exact hs
    exact s_ret (ev_op (ev_fld (ev_var rfl) hp T.c1 T.w1 (fL_w)) (ev_var (v := .int (s_ : Int)) rfl) (rv_ixL (sq_of hl) (atI_at rfl hsl))) fun H1 e1 => h H1 e1
theorem ok_Counts_init {f : Addr} {fd : FuncData} {k : Nat} (F : Fun K "__init__" "Counts.__init__" s_Counts_init f fd) (B : Bs mg) (T : Txt K Cl) : FnOk P w K mg base CX0 (k + 1) f fd ["self", "weights"] (spInitC K Cl) := by
  refine F.ok sc_Counts_init (fun vs H Q E h => ?_) (fun cdv A outer s H vs Q E hr h => ?_)
  · obtain ⟨p, a, dx, ws, rfl, _⟩ := h
    rfl
  · obtain ⟨p, a, dx, ws, rfl, hp, hs, q⟩ := h
    refine ⟨_, (pss_one (ps_fld (pv 0) (pe_callTy call_list_of (by rfl) B.list (by decide +kernel) (pa_cons (pv 1) pa_nil)) rfl)), ?_⟩
    refine s_fldL (el_listOf (ev_var rfl) hs) (ev_var rfl) hp T.c0 T.w0 (by show 0 < 1000; decide) fun l H1 nl e1 h1 => ?_
    have hpl : l ≠ p := fun z => by rw [z, hp] at nl; cases nl
    exact q _ l nl ⟨⟨dx, upd_same⟩, by rw [upd_ne hpl]; exact h1⟩ ((Kp.of_ex e1).put rfl)
theorem ok_Learner_init {f : Addr} {fd : FuncData} {k : Nat} (F : Fun K "__init__" "Learner.__init__" s_Learner_init f fd) (B : Bs mg) (T : Txt K Cl) : FnOk P w K mg base CX0 (k + 1) f fd ["self", "size", "step", "limit"] (spInitL Cl) := by
  refine F.ok sc_Learner_init (fun vs H Q E h => ?_) (fun cdv A outer s H vs Q E hr h => ?_)
  · obtain ⟨p, dx, n, st, lim, rfl, _⟩ := h
    rfl
  · obtain ⟨p, dx, n, st, lim, rfl, hp, hn, q⟩ := h
    refine ⟨_, (pss_cons (ps_fld (pv 0) (pv 2) rfl)
      (pss_cons (ps_fld (pv 0) (pv 3) rfl)
      (pss_one (ps_fld (pv 0) (pe_op op_rep (pe_lst (pa_cons pe_int pa_nil)) (pv 1)) rfl)))), ?_⟩
    refine q_fld (ev_var rfl) (ev_var rfl) hp T.c1 T.s1 (by show 0 < 1000; decide) fun H1 e1 => ?_
    refine q_fld (ev_var rfl) (ev_var rfl) upd_same T.c1 T.l1 (by show 1 < 1000; decide) fun H2 e2 => ?_
    refine s_fldL (xs := (List.replicate n (1 : Int)).map V.int) ?_ (ev_var rfl) upd_same T.c1 T.w1 (Nat.lt_of_le_of_lt fL0_len (by decide)) fun l H3 nl e3 h3 => ?_
    · have hg : (List.replicate n (1 : Int)).map V.int = (List.replicate ((n : Nat) : Int).toNat [V.int 1]).flatten := by rw [flat_rep, List.map_replicate, Int.toNat_natCast]
      rw [hg]
      exact el_rep (el_lst (ea1 ev_c) (by decide)) (ev_var rfl) ⟨by omega, by omega⟩ (by decide)
    have k1 : Kp (fun b => b = p) H H1 := Kp.of_ex e1
    have k2 := (k1.put (p := p) (o := .ins (Cl 1) dx (putF "step" (.int st) [])) rfl).trans (Kp.of_ex e2)
    have k3 := (k2.put (p := p) (o := .ins (Cl 1) dx (fL0 st lim)) rfl).trans (Kp.of_ex e3)
    have nl0 : H l = none := by
      cases z : H l with
      | none => rfl
      | some o =>
        by_cases zp : l = p
        · rw [zp, upd_same] at nl
          cases nl
        · have := k2 l o z zp
          rw [upd_ne zp, this] at nl
          cases nl
    have hpl : l ≠ p := fun z => by rw [z, hp] at nl0; cases nl0
    exact q _ l nl0 ⟨⟨dx, upd_same⟩, by rw [upd_ne hpl]; exact h3⟩ (k3.put rfl)
end
end K16
set_option Elab.async false
set_option linter.all false
set_option maxRecDepth 100000
set_option maxHeartbeats 4000000
namespace K16
open PySem PySem.Spec PyProof.Rows L2 StX GX KC Evl M08
theorem kp_ex {H1 H2 H' : Hp} {x : Addr} (nx : H1 x = none) (e : Ex H1 H2) (k : Kp (fun b => b = x) H2 H') : Ex H1 H' := fun b o h => k b o (e b o h) fun z => by
  rw [z, nx] at h
  cases h
theorem learn1 {m : Md} {ws : List Int} (k : m.kind = 1) (hr : m.rows = [ws]) (hn : m.now = 0) (s : Nat) : m.learn s = { m with rows := [grown ws s m.step m.limit], now := 0 } := by
  unfold Md.learn Md.row
  rw [if_neg (by rw [k]; decide), if_neg (by rw [k]; decide), hr, hn]
  rfl
theorem set_ok {n : Nat} {ws : List Int} {s : Nat} {st : Int} (h : RowOk n ws) (hs : s < n) (h0 : 0 ≤ st) : RowOk n (ws.set s (ws.getD s 0 + st)) := by
  obtain ⟨h1, h2, h3⟩ := h
  have hz := set_nonneg (s := s) h2 (show 0 ≤ ws.getD s 0 + st by have := getD_nonneg h2 s; omega)
  have hsum := sum_set ws s st (by omega)
  exact ⟨by rw [List.length_set, h1], hz, by omega⟩
section
variable {P : Program} {w : World} {K : PySem.W.Frag} {mg : Str → Option Value} {base : Heap} {Cl : Nat → Addr} {σ : L2.St} {H : Hp} {t : TA}
theorem ep_counts {a : Addr} {ws : List Int} (ha : EvA t σ H [.ref a]) (hs : SqL K H a (ws.map V.int)) : EvP (tMake (Cl 0) (spInitC K Cl) [] E0 t) σ H (fun v H' => ∃ p l, v = .ref p ∧ CntAt Cl H' p l ws ∧ H p = none ∧ H l = none) :=
  ev_make ha fun H1 x dx e nx nd ne Q q => ⟨x, a, dx, ws, rfl, upd_same, ex_l (e.trans (made_ex nx nd)) hs, fun H' l nl hc kp =>
    q H' (kp_ex nx (made_ex nx nd) kp) ⟨x, l, rfl, hc, fresh_back e nx, fresh_back (e.trans (made_ex nx nd)) nl⟩⟩
theorem ep_learner {n : Nat} {st lim : Int} (ha : EvA t σ H [.int (n : Int), .int st, .int lim]) (hn : n ≤ 64) : EvP (tMake (Cl 1) (spInitL Cl) [] E0 t) σ H (fun v H' => ∃ p l, v = .ref p ∧ LrnAt Cl H' p l st lim (List.replicate n 1) ∧ H p = none ∧ H l = none) :=
  ev_make ha fun H1 x dx e nx nd ne Q q => ⟨x, dx, n, st, lim, rfl, upd_same, hn, fun H' l nl hc kp =>
    q H' (kp_ex nx (made_ex nx nd) kp) ⟨x, l, rfl, hc, fresh_back e nx, fresh_back (e.trans (made_ex nx nd)) nl⟩⟩
/-! ### learn and fresh of a Counts -/
theorem ok_Counts_learn {f : Addr} {fd : FuncData} {k : Nat} (F : Fun K "learn" "Counts.learn" s_Counts_learn f fd) (B : Bs mg) : FnOk P w K mg base CX0 (k + 1) f fd ["self", "symbol"] (spLearn Cl 0) := by
  refine F.ok sc_Counts_learn (fun vs H Q E h => ?_) (fun cdv A outer s H vs Q E hr h => ?_)
  · obtain ⟨p, m, Fp, n, s_, rfl, _⟩ := h
    rfl
  · obtain ⟨p, m, Fp, n, s_, rfl, hk, hm, hok, hs, q⟩ := h
    refine ⟨_, (pss_one (ps_ret pe_non)), ?_⟩
    refine s_ret ev_c fun H1 e1 => q H1 Fp ?_ (Kp.of_ex e1) fun b hb => .inl hb
    have e : m.learn s_ = m := by
      unfold Md.learn
      rw [if_pos hk]
    rw [e]
    exact hm.ext e1
theorem ok_Counts_fresh {f : Addr} {fd : FuncData} {k : Nat} (F : Fun K "fresh" "Counts.fresh" s_Counts_fresh f fd) (B : Bs mg) (T : Txt K Cl) (N_Counts : CalM P w K mg base "Counts" (Cl 0) 1 ["self", "weights"] (spInitC K Cl)) : FnOk P w K mg base CX0 (k + 3) f fd ["self"] (spFresh Cl 0) := by
  refine F.ok sc_Counts_fresh (fun vs H Q E h => ?_) (fun cdv A outer s H vs Q E hr h => ?_)
  · obtain ⟨p, m, Fp, n, rfl, _⟩ := h
    rfl
  · obtain ⟨p, m, Fp, n, rfl, hk, hm, hok, q⟩ := h
    obtain ⟨ws, l, e1, e2, erow, ⟨⟨dx, hp⟩, hl⟩, eF⟩ := hm.k0 hk
    refine ⟨_, (pss_one (ps_ret (pe_makeC N_Counts (hr.mono (by omega)) (by rfl) (pa_cons (pe_fld (pv 0) rfl) pa_nil)))), ?_⟩
    refine s_retP (ep_counts (ea1 (ev_fld (ev_var rfl) hp T.c0 T.w0 (fC_w l))) (sq_of hl)) fun v H1 ex ⟨p2, l2, ev, hc, n1, n2⟩ => ?_
    subst ev
    refine q p2 H1 (fun b => b = p2 ∨ b = l2) ex ?_ fun b hb => ?_
    · have e : m.fresh = m := by
        unfold Md.fresh
        rw [if_pos hk]
      rw [e]
      exact .inl ⟨hk, ws, l2, e1, e2, hc, rfl⟩
    · rcases hb with rfl | rfl
      · exact n1
      · exact n2
/-! ### learn and fresh of a Learner -/
theorem ok_Learner_fresh {f : Addr} {fd : FuncData} {k : Nat} (F : Fun K "fresh" "Learner.fresh" s_Learner_fresh f fd) (B : Bs mg) (T : Txt K Cl) (N_Learner : CalM P w K mg base "Learner" (Cl 1) 1 ["self", "size", "step", "limit"] (spInitL Cl)) : FnOk P w K mg base CX0 (k + 3) f fd ["self"] (spFresh Cl 1) := by
  refine F.ok sc_Learner_fresh (fun vs H Q E h => ?_) (fun cdv A outer s H vs Q E hr h => ?_)
  · obtain ⟨p, m, Fp, n, rfl, _⟩ := h
    rfl
  · obtain ⟨p, m, Fp, n, rfl, hk, hm, hok, q⟩ := h
    obtain ⟨ws, l, e1, e2, erow, ⟨⟨dx, hp⟩, hl⟩, eF⟩ := hm.k1 hk
    have hrow := hok.row
    rw [erow] at hrow
    refine ⟨_, (pss_one (ps_ret (pe_makeC N_Learner (hr.mono (by omega)) (by rfl) (pa_cons (pe_callB call_len_seq (by rfl) B.len PySem.boot_len (pa_cons (pe_fld (pv 0) rfl) pa_nil)) (pa_cons (pe_fld (pv 0) rfl) (pa_cons (pe_fld (pv 0) rfl) pa_nil)))))), ?_⟩
    refine s_retP (ep_learner (n := n) (ea3 (ev_is (ev_len (K := K) (ev_fld (ev_var rfl) hp T.c1 T.w1 fL_w) (sq_of hl)) (by rw [List.length_map, hrow.1])) (ev_fld (ev_var rfl) hp T.c1 T.s1 fL_s) (ev_fld (ev_var rfl) hp T.c1 T.l1 fL_l)) hok.n64) fun v H1 ex ⟨p2, l2, ev, hc, n1, n2⟩ => ?_
    subst ev
    refine q p2 H1 (fun b => b = p2 ∨ b = l2) ex ?_ fun b hb => ?_
    · rw [fresh_rows hok (by rw [hk]; decide), e1]
      exact .inr (.inl ⟨hk, _, l2, rfl, rfl, hc, rfl⟩)
    · rcases hb with rfl | rfl
      · exact n1
      · exact n2
theorem ok_Learner_learn {f : Addr} {fd : FuncData} {k : Nat} (F : Fun K "learn" "Learner.learn" s_Learner_learn f fd) (B : Bs mg) (T : Txt K Cl) (C_Learner_total : MCal P w K mg base Cl (fun i => i = 1) "total" 1 ["self"] (spTotal Cl)) : FnOk P w K mg base CX0 (k + 2) f fd ["self", "symbol"] (spLearn Cl 1) := by
  refine F.ok sc_Learner_learn (fun vs H Q E h => ?_) (fun cdv A outer s H vs Q E hr h => ?_)
  · obtain ⟨p, m, Fp, n, s_, rfl, _⟩ := h
    rfl
  · obtain ⟨p, m, Fp, n, s_, rfl, hk, hm, hok, hs, q⟩ := h
    obtain ⟨ws, l, e1, e2, erow, ⟨⟨dx, hp⟩, hl⟩, rfl⟩ := hm.k1 hk
    have hrow := hok.row
    rw [erow] at hrow
    rw [learn1 hk e1 e2] at q
    have hsl : s_ < ws.length := by rw [hrow.1]; exact hs
    have hlp : l ≠ p := fun z => by rw [z, hp] at hl; cases hl
    refine ⟨_, (pss_cons (ps_augS (pe_fld (pv 0) rfl) (pv 1) get_list (pe_fld (pv 0) rfl) ip_add set_list)
      (pss_one (ps_if (pt_cmpR op_gt (pe_methD0 (pv 0) C_Learner_total (hr.mono (by omega))) (pe_fld (pv 0) rfl) (nomark _)) (pss_one (ps_fld (pv 0) (pe_lc rfl sc_Learner_learn.nd (pi_list (pe_fld (pv 0) rfl)) (blkOk_by (own := [("weight", 2)]) (N := ["self", "symbol", "weight"]) (sc := defScope s_Learner_learn) (by decide +kernel)) (fun _ _ _ _ _ => (pg_name (i := 2) sc_Learner_learn.nd rfl (Or.inl rfl))) (fun _ _ _ _ _ => pts_nil) (fun _ _ _ _ _ => (pe_op op_fdiv (pe_op op_add (pv 2) pe_int) pe_int))) rfl)) pss_nil))), ?_⟩
    refine q_augS (s := s_) (p := ws.getD s_ 0) (q := m.step) hl (ev_fld (ev_var rfl) hp T.c1 T.w1 fL_w) (ev_var rfl) (int_at hsl) (ev_fld (ev_var rfl) hp T.c1 T.s1 fL_s) fun H1 ex1 => ?_
    have em : (ws.map V.int).set s_ (.int (ws.getD s_ 0 + m.step)) = (ws.set s_ (ws.getD s_ 0 + m.step)).map V.int := by rw [List.map_set]
    rw [em]
    have hok1 := set_ok hrow hs hok.step
    unfold grown at q
    generalize ws.set s_ (ws.getD s_ 0 + m.step) = ws1 at q hok1 ⊢
    have hp1 : upd H1 l (.lst (ws1.map V.int)) p = some (.ins (Cl 1) dx (fL m.step m.limit l)) := by rw [upd_ne hlp.symm]; exact ex1 _ _ hp
    have hl1 : upd H1 l (.lst (ws1.map V.int)) l = some (.lst (ws1.map V.int)) := upd_same
    have kp1 : Kp (fun b => b = p ∨ b = l) H (upd H1 l (.lst (ws1.map V.int))) := (Kp.of_ex ex1).put (.inr rfl)
    have fr1 : ∀ b, upd H1 l (.lst (ws1.map V.int)) b = none → H b = none := fun b hb => by
      by_cases z : b = l
      · rw [z, upd_same] at hb
        cases hb
      · rw [upd_ne z] at hb
        exact fresh_back ex1 hb
    generalize upd H1 l (.lst (ws1.map V.int)) = H2 at hp1 hl1 kp1 fr1 ⊢
    have ht : SpV (spTotal Cl 1) (.ref p :: ([] ++ [])) H2 (.int ws1.sum) := fun H3 e3 Q q E => ⟨p, ⟨1, [ws1], 0, m.step, m.limit⟩, _, n, rfl, rfl, mat_l (LrnAt.ext e3 ⟨⟨dx, hp1⟩, hl1⟩), ok_l hok.n1 hok.n64 hok1 hok.step, q⟩
    refine s_when (et_test (ev_op (ev_meth (i := 1) (ev_var rfl) rfl hp1 (fL_no (by decide +kernel) (by decide +kernel) (by decide +kernel)) ea_nil ht) (ev_fld (ev_var rfl) hp1 T.c1 T.l1 fL_l) rv_I0)) (fun hb H3 ex3 => ?_) (fun hb H3 ex3 => ?_)
    · have hgt : m.limit < ws1.sum := of_decide_eq_true hb
      rw [if_pos hgt] at q
      have hg : (ws1.map fun w : Int => (w + 1) / 2).map V.int = given (ws1.map V.int).length (fun _ => true) (fun i => .int ((ws1.getD i 0 + 1) / 2)) := by
        unfold given
        rw [List.filter_eq_self.mpr fun _ _ => rfl, List.length_map]
        refine List.ext_getElem (by simp) fun i h1 h2 => ?_
        simp only [List.getElem_map, List.getElem_range]
        rw [List.getD_eq_getElem?_getD, List.getElem?_eq_getElem (by simpa using h1)]
        rfl
      refine s_fldL (xs := (ws1.map fun w : Int => (w + 1) / 2).map V.int) ?_ (ev_var rfl) (ex3 _ _ hp1) T.c1 T.w1 fL_len fun l2 H4 nl e4 h4 => ?_
      · rw [hg]
        refine el_lcL _ _ (ev_fld (ev_var rfl) (ex3 _ _ hp1) T.c1 T.w1 fL_w) (ex_l ex3 (sq_of hl1)) (by rw [List.length_map, hok1.1]; have := hok.n64; omega) (fun x => rfl) (fun i x H9 e9 hi => et_yes) (fun i x H9 e9 hi _ => ?_)
        have hil : i < ws1.length := by
          have := (List.getElem?_eq_some_iff.mp hi).1
          rwa [List.length_map] at this
        rw [int_at hil] at hi
        cases hi
        exact ev_op (ev_op (ev_var rfl) ev_c rv_I0) ev_c (rv_div (by decide) (by decide))
      · have hf : putF "weights" (.ref l2) (fL m.step m.limit l) = fL m.step m.limit l2 := putF_putF _
        rw [hf]
        have nl2 : H l2 = none := fr1 l2 (fresh_back ex3 nl)
        have hpl : l2 ≠ p := fun z => by rw [z, hp] at nl2; cases nl2
        refine q _ (fun b => b = p ∨ b = l2) (.inr (.inl ⟨hk, _, l2, rfl, rfl, ⟨⟨dx, upd_same⟩, by rw [upd_ne hpl]; exact h4⟩, rfl⟩)) (((kp1.trans (Kp.of_ex ex3)).trans (Kp.of_ex e4)).put (.inl rfl)) fun b hb => ?_
        rcases hb with rfl | rfl
        · exact .inl (.inl rfl)
        · exact .inr nl2
    · have hle : ¬ m.limit < ws1.sum := of_decide_eq_false hb
      rw [if_neg hle] at q
      exact q H3 (fun b => b = p ∨ b = l) (.inr (.inl ⟨hk, _, l, rfl, rfl, ⟨⟨dx, ex3 _ _ hp1⟩, ex3 _ _ hl1⟩, rfl⟩)) (kp1.trans (Kp.of_ex ex3)) fun b hb => .inl hb
end
end K16
set_option Elab.async false
set_option linter.all false
set_option maxRecDepth 100000
set_option maxHeartbeats 4000000
namespace K16
open PySem PySem.Spec PyProof.Rows L2 StX GX KC Evl M08
section
variable {P : Program} {w : World} {K : PySem.W.Frag} {mg : Str → Option Value} {base : Heap} {Cl : Nat → Addr} {H : Hp}
theorem kp_none {F : Addr → Prop} {H H' : Hp} {b : Addr} (k : Kp F H H') (h : H' b = none) (hf : ¬ F b) : H b = none := by
  cases z : H b with
  | none => rfl
  | some o =>
    rw [k b o z hf] at h
    cases h
theorem ok_cell {f : Addr} {fd : FuncData} {k : Nat} (F : Fun K "_law_cell" "_law_cell" s_law_cell f fd) (B : Bs mg) : FnOk P w K mg base CX0 (k + 1) f fd ["script", "k"] (spCell K) := by
  refine F.ok sc_law_cell (fun vs H Q E h => ?_) (fun cdv A outer s H vs Q E hr h => ?_)
  · obtain ⟨l, ns, j, rfl, _⟩ := h
    rfl
  · obtain ⟨l, ns, j, rfl, hs, q⟩ := h
    refine ⟨_, (pss_cons (ps_if (pt_cmpR op_lt (pv 1) (pe_callB call_len_seq (by rfl) B.len PySem.boot_len (pa_cons (pv 0) pa_nil)) (nomark _)) (pss_one (ps_ret (pe_callTy call_int1 (by rfl) B.int (by decide +kernel) (pa_cons (pe_ix ix_list (pv 0) (pv 1) (fun _ _ => rfl)) pa_nil)))) pss_nil)
      (pss_one (ps_ret pe_int))), ?_⟩
    refine ⟨_, rfl, _, rfl, l, _, rfl, .inl hs, _, _, rfl, rfl, _, rfl, ?_⟩
    by_cases hj : j < ns.length
    · have hd : decide ((j : Int) < ((ns.map V.int).length : Int)) = true := decide_eq_true (by rw [List.length_map]; omega)
      rw [hd]
      exact ⟨_, rfl, _, rfl, l, _, _, _, rfl, rfl, hs, atI_cell hj, .inl ⟨_, rfl, q⟩⟩
    · have hd : decide ((j : Int) < ((ns.map V.int).length : Int)) = false := decide_eq_false (by rw [List.length_map]; omega)
      rw [hd]
      rw [cell_out hj] at q
      exact q
theorem spv_cell {H : Hp} {l : Addr} {ns : List Int} {z : Int} {j : Nat} (hs : SqL K H l (ns.map V.int)) (e : z = (j : Int)) : SpV (spCell K) ([.ref l, .int z] ++ []) H (.int (cellOf ns j)) := fun H1 e1 Q q E => ⟨l, ns, j, by rw [e]; rfl, ex_l e1 hs, q H1 (Ex.refl H1)⟩
end
end K16
set_option Elab.async false
set_option linter.all false
set_option maxRecDepth 100000
set_option maxHeartbeats 4000000
namespace K16
open PySem PySem.Spec PyProof.Rows L2 StX GX KC Evl M08
abbrev Any : Nat → Prop := fun i => i ≤ 2
section
variable {P : Program} {w : World} {K : PySem.W.Frag} {mg : Str → Option Value} {base : Heap} {Cl : Nat → Addr} {σ : L2.St} {H H' : Hp} {p d R r : Addr} {rs : List Addr} {m : Md} {n : Nat} {F : Addr → Prop}
theorem MAt.keep {H H' : Hp} {p : Addr} {m : Md} {F : Addr → Prop} (e : ∀ b o, F b → H b = some o → H' b = some o) (h : MAt Cl H p m F) : MAt Cl H' p m F := by
  rcases h with ⟨k, ws, l, a, b, ⟨⟨dx, c⟩, c2⟩, rfl⟩ | ⟨k, ws, l, a, b, ⟨⟨dx, c⟩, c2⟩, rfl⟩ | h
  · exact .inl ⟨k, ws, l, a, b, ⟨⟨dx, e _ _ (.inl rfl) c⟩, e _ _ (.inr rfl) c2⟩, rfl⟩
  · exact .inr (.inl ⟨k, ws, l, a, b, ⟨⟨dx, e _ _ (.inl rfl) c⟩, e _ _ (.inr rfl) c2⟩, rfl⟩)
  · exact h.elim
theorem MAt.obj (h : MAt Cl H p m F) : ∃ dx fs, H p = some (.ins (Cl m.kind) dx fs) ∧ ∀ nm : Str, ¬ nm = "weights" → ¬ nm = "limit" → ¬ nm = "step" → ¬ nm = "learners" → ¬ nm = "current" → fs.lookup nm = none := by
  rcases h with ⟨k, ws, l, a, b, ⟨⟨dx, c⟩, c2⟩, rfl⟩ | ⟨k, ws, l, a, b, ⟨⟨dx, c⟩, c2⟩, rfl⟩ | h
  · rw [k]
    exact ⟨dx, _, c, fun nm h1 _ _ _ _ => fC_no l h1⟩
  · rw [k]
    exact ⟨dx, _, c, fun nm h1 h2 h3 _ _ => fL_no h1 h2 h3⟩
  · exact h.elim
theorem ev_m {m_ : Str} {sp : Nat → Sp} {t : TA} {ta : TE} {vs : List V} {v : V} (hm : MAt Cl H p m F) (hok : Ok n m) (ha : Ev ta σ H (.ref p)) (ht : EvA t σ H vs) (hs : SpV (sp m.kind) (.ref p :: (vs ++ [])) H v)
    (h1 : ¬ m_ = "weights" := by decide +kernel) (h2 : ¬ m_ = "limit" := by decide +kernel) (h3 : ¬ m_ = "step" := by decide +kernel) (h4 : ¬ m_ = "learners" := by decide +kernel) (h5 : ¬ m_ = "current" := by decide +kernel) : Ev (tMethD Cl Any m_ sp ta t) σ H v := by
  obtain ⟨dx, fs, hp, hn⟩ := hm.obj
  exact ev_meth (i := m.kind) ha hok.kd hp (hn _ h1 h2 h3 h4 h5) ht hs
theorem sp_size (hm : MAt Cl H p m F) (hok : Ok n m) : SpV (spSize Cl m.kind) (.ref p :: ([] ++ [])) H (.int (n : Int)) := fun H3 e3 Q q E => ⟨p, m, F, n, rfl, rfl, hm.ext e3, hok, q⟩
theorem sp_total (hm : MAt Cl H p m F) (hok : Ok n m) : SpV (spTotal Cl m.kind) (.ref p :: ([] ++ [])) H (.int m.row.sum) := fun H3 e3 Q q E => ⟨p, m, F, n, rfl, rfl, hm.ext e3, hok, q⟩
theorem sp_weight (hm : MAt Cl H p m F) (hok : Ok n m) {s : Nat} (hs : s < n) : SpV (spWeight Cl m.kind) (.ref p :: ([.int (s : Int)] ++ [])) H (.int (m.row.getD s 0)) := fun H3 e3 Q q E => ⟨p, m, F, n, s, rfl, rfl, hm.ext e3, hok, hs, q⟩
theorem sp_low (hm : MAt Cl H p m F) (hok : Ok n m) {s : Nat} : SpV (spLow Cl m.kind) (.ref p :: ([.int (s : Int)] ++ [])) H (.int (m.row.take s).sum) := fun H3 e3 Q q E => ⟨p, m, F, n, s, rfl, rfl, hm.ext e3, hok, q⟩
theorem sp_sym (hm : MAt Cl H p m F) (hok : Ok n m) {x : Int} (h0 : 0 ≤ x) (h1 : x < m.row.sum) : SpV (spSym Cl m.kind) (.ref p :: ([.int x] ++ [])) H (.int (symAt m.row x : Int)) := fun H3 e3 Q q E => ⟨p, m, F, n, x, rfl, rfl, hm.ext e3, hok, h0, h1, q⟩
abbrev DSize (P : Program) (w : World) (K : PySem.W.Frag) (mg : Str → Option Value) (base : Heap) (Cl : Nat → Addr) : Prop := MCal P w K mg base Cl Any "size" 1 ["self"] (spSize Cl)
abbrev DTotal (P : Program) (w : World) (K : PySem.W.Frag) (mg : Str → Option Value) (base : Heap) (Cl : Nat → Addr) : Prop := MCal P w K mg base Cl Any "total" 2 ["self"] (spTotal Cl)
abbrev DWeight (P : Program) (w : World) (K : PySem.W.Frag) (mg : Str → Option Value) (base : Heap) (Cl : Nat → Addr) : Prop := MCal P w K mg base Cl Any "weight" 2 ["self", "symbol"] (spWeight Cl)
abbrev DLow (P : Program) (w : World) (K : PySem.W.Frag) (mg : Str → Option Value) (base : Heap) (Cl : Nat → Addr) : Prop := MCal P w K mg base Cl Any "low" 3 ["self", "symbol"] (spLow Cl)
abbrev DSym (P : Program) (w : World) (K : PySem.W.Frag) (mg : Str → Option Value) (base : Heap) (Cl : Nat → Addr) : Prop := MCal P w K mg base Cl Any "symbol_at" 3 ["self", "number"] (spSym Cl)
abbrev DLearn (P : Program) (w : World) (K : PySem.W.Frag) (mg : Str → Option Value) (base : Heap) (Cl : Nat → Addr) : Prop := MCal P w K mg base Cl Any "learn" 3 ["self", "symbol"] (spLearn Cl)
abbrev DFresh (P : Program) (w : World) (K : PySem.W.Frag) (mg : Str → Option Value) (base : Heap) (Cl : Nat → Addr) : Prop := MCal P w K mg base Cl Any "fresh" 5 ["self"] (spFresh Cl)
end
end K16
set_option linter.all false
/-! The interval of a message, without the program. -/
namespace M09
open M08
/-! ### what holds of a model all the time -/
structure Bd (m : Md) : Prop where
  rows : ∀ r ∈ m.rows, r.sum ≤ 8000
  step : m.step ≤ 100
  limit : m.limit ≤ 8000
/-- the symbol has a weight, and keeps it -/
def Live (m : Md) (s : Nat) : Prop := ∀ r ∈ m.rows, 1 ≤ r.getD s 0
theorem half_sum : ∀ l : List Int, (l.map (fun w : Int => (w + 1) / 2)).sum * 2 ≤ l.sum + l.length
  | [] => by simp
  | a :: r => by
    have := half_sum r
    simp only [List.map_cons, List.sum_cons, List.length_cons]
    omega
theorem Bd.row {n : Nat} {m : Md} (h : Bd m) (hok : Ok n m) : m.row.sum ≤ 8000 := h.rows _ (List.mem_of_getElem? (row_at hok))
theorem Bd.learn {n : Nat} {m : Md} (h : Bd m) (hok : Ok n m) {s : Nat} (hs : s < n) : Bd (m.learn s) := by
  unfold Md.learn
  split
  · exact h
  · refine ⟨fun r hr => ?_, h.step, h.limit⟩
    rcases List.mem_or_eq_of_mem_set hr with z | z
    · exact h.rows r z
    · rw [z]
      have h1 := h.row hok
      have h2 := sum_set m.row s m.step (by rw [hok.row.1]; exact hs)
      have h3 := h.limit
      have h4 := h.step
      unfold grown
      split
      · have h5 := half_sum (m.row.set s (m.row.getD s 0 + m.step))
        rw [List.length_set, hok.row.1] at h5
        have := hok.n64
        omega
      · omega
theorem Live.learn {n : Nat} {m : Md} {a s : Nat} (h : Live m a) (hok : Ok n m) (hs : s < n) (ha : a < n) : Live (m.learn s) a := by
  unfold Md.learn
  split
  · exact h
  · intro r hr
    rcases List.mem_or_eq_of_mem_set hr with z | z
    · exact h r z
    · rw [z]
      have hl := hok.row.1
      have h1 : 1 ≤ m.row.getD a 0 := h _ (List.mem_of_getElem? (row_at hok))
      have h2 : 1 ≤ (m.row.set s (m.row.getD s 0 + m.step)).getD a 0 := by
        by_cases q : s = a
        · subst q
          rw [List.getD_eq_getElem?_getD, List.getElem?_set_self (by omega)]
          have := hok.step
          simp only [Option.getD_some]
          omega
        · rw [List.getD_eq_getElem?_getD, List.getElem?_set_ne q, ← List.getD_eq_getElem?_getD]
          exact h1
      unfold grown
      split
      · rw [List.getD_eq_getElem?_getD, List.getElem?_map]
        rw [List.getD_eq_getElem?_getD] at h2
        cases e : (m.row.set s (m.row.getD s 0 + m.step))[a]? with
        | none =>
          rw [e] at h2
          simp at h2
        | some x =>
          rw [e] at h2
          simp only [Option.getD_some, Option.map_some] at h2 ⊢
          omega
      · exact h2
theorem Live.row {n : Nat} {m : Md} {a : Nat} (h : Live m a) (hok : Ok n m) : 1 ≤ m.row.getD a 0 := h _ (List.mem_of_getElem? (row_at hok))
/-! ### the interval -/
structure T3 where
  low : Int
  width : Int
  whole : Int
def stp (t : T3) (row : List Int) (s : Nat) : T3 := ⟨t.low * row.sum + t.width * (row.take s).sum, t.width * row.getD s 0, t.whole * row.sum⟩
def itv : Md → List Nat → T3 → T3
  | _, [], t => t
  | m, s :: r, t => itv (m.learn s) r (stp t m.row s)
def mds : Md → List Nat → Md
  | m, [] => m
  | m, s :: r => mds (m.learn s) r
theorem itv_snoc : ∀ (msg : List Nat) (m : Md) (t : T3) (s : Nat), itv m (msg ++ [s]) t = stp (itv m msg t) (mds m msg).row s
  | [], m, t, s => rfl
  | a :: r, m, t, s => itv_snoc r (m.learn a) (stp t m.row a) s
theorem mds_snoc : ∀ (msg : List Nat) (m : Md) (s : Nat), mds m (msg ++ [s]) = (mds m msg).learn s
  | [], m, s => rfl
  | a :: r, m, s => mds_snoc r (m.learn a) s
/-- a message of a model -/
def Msg (n : Nat) (m : Md) (msg : List Nat) : Prop := ∀ s ∈ msg, s < n ∧ Live m s
structure Good (n : Nat) (m : Md) : Prop where
  ok : Ok n m
  bd : Bd m
theorem Good.learn {n : Nat} {m : Md} (h : Good n m) {s : Nat} (hs : s < n) : Good n (m.learn s) := ⟨h.ok.learn hs, h.bd.learn h.ok hs⟩
theorem Msg.learn {n : Nat} {m : Md} {msg : List Nat} (h : Msg n m msg) (g : Ok n m) {s : Nat} (hs : s < n) : Msg n (m.learn s) msg := fun a ha => ⟨(h a ha).1, (h a ha).2.learn g hs (h a ha).1⟩
theorem mds_good {n : Nat} : ∀ (msg : List Nat) (m : Md), Good n m → (∀ s ∈ msg, s < n) → Good n (mds m msg)
  | [], m, h, _ => h
  | s :: r, m, h, hm => mds_good r (m.learn s) (h.learn (hm s (by simp))) fun a ha => hm a (by simp [ha])
theorem mds_msg {n : Nat} : ∀ (msg : List Nat) (m : Md) (all : List Nat), Good n m → (∀ s ∈ msg, s < n) → Msg n m all → Msg n (mds m msg) all
  | [], m, all, h, _, ha => ha
  | s :: r, m, all, h, hm, ha => mds_msg r (m.learn s) all (h.learn (hm s (by simp))) (fun a h2 => hm a (by simp [h2])) (ha.learn h.ok (hm s (by simp)))
theorem mds_fresh {n : Nat} : ∀ (msg : List Nat) (m : Md), Good n m → (∀ s ∈ msg, s < n) → (mds m msg).fresh = m.fresh
  | [], m, h, _ => rfl
  | s :: r, m, h, hm => (mds_fresh r (m.learn s) (h.learn (hm s (by simp))) fun a ha => hm a (by simp [ha])).trans (learn_fresh h.ok (hm s (by simp)))
/-- a triple that is an interval, with k symbols behind it -/
structure Tr (k : Nat) (t : T3) : Prop where
  low : 0 ≤ t.low
  width : 1 ≤ t.width
  whole : t.low + t.width ≤ t.whole
  bound : t.whole < 2 ^ (13 * k + 1)
theorem two_split (k : Nat) : (2 : Int) ^ (13 * (k + 1) + 1) = 2 ^ (13 * k + 1) * 8192 := by
  rw [show 13 * (k + 1) + 1 = (13 * k + 1) + 13 by omega, Int.pow_add]
  rfl
theorem stp_tr {n k : Nat} {t : T3} {row : List Int} {s : Nat} (h : Tr k t) (hr : RowOk n row) (hb : row.sum ≤ 8000) (hs : s < n) (hl : 1 ≤ row.getD s 0) : Tr (k + 1) (stp t row s) := by
  obtain ⟨h1, h2, h3, h4⟩ := h
  have a1 := take_nonneg hr.2.1 s
  have a2 := sum_take_succ row s (by rw [hr.1]; exact hs)
  have a3 : (row.take (s + 1)).sum ≤ row.sum := by
    have e : row.sum = (row.take (s + 1)).sum + (row.drop (s + 1)).sum := by rw [← List.sum_append, List.take_append_drop]
    have := sum_nonneg (row.drop (s + 1)) fun x hx => hr.2.1 x (List.mem_of_mem_drop hx)
    omega
  have a4 := hr.2.2
  refine ⟨?_, ?_, ?_, ?_⟩
  · show 0 ≤ t.low * row.sum + t.width * (row.take s).sum
    have := Int.mul_nonneg h1 (show 0 ≤ row.sum by omega)
    have := Int.mul_nonneg (show 0 ≤ t.width by omega) a1
    omega
  · show 1 ≤ t.width * row.getD s 0
    have := Int.mul_le_mul h2 hl (by decide) (by omega)
    omega
  · show t.low * row.sum + t.width * (row.take s).sum + t.width * row.getD s 0 ≤ t.whole * row.sum
    have b1 : t.width * (row.take s).sum + t.width * row.getD s 0 = t.width * (row.take (s + 1)).sum := by rw [a2, Int.mul_add]
    have b2 : t.width * (row.take (s + 1)).sum ≤ t.width * row.sum := Int.mul_le_mul_of_nonneg_left a3 (by omega)
    have b3 : t.low * row.sum + t.width * row.sum = (t.low + t.width) * row.sum := by rw [Int.add_mul]
    have b4 : (t.low + t.width) * row.sum ≤ t.whole * row.sum := Int.mul_le_mul_of_nonneg_right h3 (by omega)
    omega
  · show t.whole * row.sum < 2 ^ (13 * (k + 1) + 1)
    rw [two_split]
    have c1 : t.whole * row.sum ≤ t.whole * 8192 := Int.mul_le_mul_of_nonneg_left (by omega) (by omega)
    have c2 : t.whole * 8192 < 2 ^ (13 * k + 1) * 8192 := Int.mul_lt_mul_of_pos_right h4 (by decide)
    omega
theorem itv_tr {n : Nat} : ∀ (msg : List Nat) (m : Md) (t : T3) (k : Nat), Good n m → Msg n m msg → Tr k t → Tr (k + msg.length) (itv m msg t)
  | [], m, t, k, _, _, h => h
  | s :: r, m, t, k, g, hm, h => by
    have hs := hm s (by simp)
    have hr : Msg n m r := fun a ha => hm a (by simp [ha])
    have := itv_tr r (m.learn s) (stp t m.row s) (k + 1) (g.learn hs.1) (hr.learn g.ok hs.1) (stp_tr h g.ok.row (g.bd.row g.ok) hs.1 (hs.2.row g.ok))
    rw [List.length_cons, show k + (r.length + 1) = k + 1 + r.length by omega]
    exact this
theorem tr0 : Tr 0 ⟨0, 1, 1⟩ := ⟨by decide, by decide, by decide, by decide⟩
/-! ### the least exponent, the shortest bits -/
def ins (t : T3) (v : Int) (c : Nat) : Prop := t.low * 2 ^ c ≤ v * t.whole ∧ (v + 1) * t.whole ≤ (t.low + t.width) * 2 ^ c
instance (t : T3) (v : Int) (c : Nat) : Decidable (ins t v c) := by unfold ins; infer_instance
def firstN (t : T3) (c : Nat) : Int := (t.low * 2 ^ c + t.whole - 1) / t.whole
theorem first_spec {k : Nat} {t : T3} (h : Tr k t) (c : Nat) : t.low * 2 ^ c ≤ firstN t c * t.whole ∧ firstN t c * t.whole < t.low * 2 ^ c + t.whole := by
  have hw : 0 < t.whole := by have := h.low; have := h.width; have := h.whole; omega
  unfold firstN
  generalize t.low * 2 ^ c = y
  have e := Int.emod_add_mul_ediv (y + t.whole - 1) t.whole
  have e1 := Int.emod_nonneg (y + t.whole - 1) (show t.whole ≠ 0 by omega)
  have e2 := Int.emod_lt_of_pos (y + t.whole - 1) hw
  rw [Int.mul_comm t.whole] at e
  omega
theorem first_le {k : Nat} {t : T3} (h : Tr k t) {c : Nat} {v : Int} (hv : t.low * 2 ^ c ≤ v * t.whole) : firstN t c ≤ v := by
  have hw : 0 < t.whole := by have := h.low; have := h.width; have := h.whole; omega
  have h2 := (first_spec h c).2
  by_cases z : firstN t c ≤ v
  · exact z
  · have : v + 1 ≤ firstN t c := by omega
    have h3 : (v + 1) * t.whole ≤ firstN t c * t.whole := Int.mul_le_mul_of_nonneg_right this (by omega)
    rw [Int.add_mul, Int.one_mul] at h3
    omega
theorem first_nonneg {k : Nat} {t : T3} (h : Tr k t) (c : Nat) : 0 ≤ firstN t c := by
  have hw : 0 < t.whole := by have := h.low; have := h.width; have := h.whole; omega
  unfold firstN
  refine Int.ediv_nonneg ?_ (by omega)
  have : 0 ≤ t.low * 2 ^ c := Int.mul_nonneg h.low (Int.pow_nonneg (by decide))
  omega
theorem ins_first {k : Nat} {t : T3} (h : Tr k t) {c : Nat} {v : Int} (hv : ins t v c) : ins t (firstN t c) c := by
  have hw : 0 < t.whole := by have := h.low; have := h.width; have := h.whole; omega
  have h1 := first_le h hv.1
  refine ⟨(first_spec h c).1, Int.le_trans ?_ hv.2⟩
  exact Int.mul_le_mul_of_nonneg_right (by omega) (by omega)
theorem ins_wide {k : Nat} {t : T3} (h : Tr k t) {c : Nat} (hc : 2 * t.whole ≤ t.width * 2 ^ c) : ins t (firstN t c) c := by
  have h2 := first_spec h c
  refine ⟨h2.1, ?_⟩
  rw [Int.add_mul, Int.add_mul, Int.one_mul]
  omega
theorem ins_need {t : T3} {v : Int} {c : Nat} (h : ins t v c) : t.whole ≤ t.width * 2 ^ c := by
  obtain ⟨h1, h2⟩ := h
  rw [Int.add_mul, Int.add_mul, Int.one_mul] at h2
  omega
theorem ins_lt {k : Nat} {t : T3} (h : Tr k t) {v : Int} {c : Nat} (hv : ins t v c) : v < 2 ^ c := by
  have hw : 0 < t.whole := by have := h.low; have := h.width; have := h.whole; omega
  have h2 := hv.2
  have h3 : (t.low + t.width) * 2 ^ c ≤ t.whole * 2 ^ c := Int.mul_le_mul_of_nonneg_right h.whole (Int.pow_nonneg (by decide))
  have h4 : (v + 1) * t.whole ≤ 2 ^ c * t.whole := by
    rw [Int.mul_comm (2 ^ c)]
    omega
  have := Int.le_of_mul_le_mul_right h4 hw
  omega
theorem not_ins_pred {k : Nat} {t : T3} (h : Tr k t) {c : Nat} : ¬ ins t (firstN t c - 1) c := fun z => by
  have := first_le h z.1
  omega
/-- e is the least exponent -/
def Lst (t : T3) (e : Nat) : Prop := t.whole ≤ t.width * 2 ^ e ∧ ∀ j, j < e → t.width * 2 ^ j < t.whole
/-- the code: c bits of v -/
def codeC (t : T3) (e : Nat) : Nat := if ins t (firstN t e) e then e else e + 1
theorem code_ins {k : Nat} {t : T3} (h : Tr k t) {e : Nat} (he : Lst t e) : ins t (firstN t (codeC t e)) (codeC t e) := by
  unfold codeC
  split
  · assumption
  · refine ins_wide h ?_
    rw [Int.pow_succ, ← Int.mul_assoc]
    have := he.1
    omega
theorem code_short {k : Nat} {t : T3} (h : Tr k t) {e : Nat} (he : Lst t e) {c : Nat} (hc : c < codeC t e) (v : Int) : ¬ ins t v c := fun z => by
  unfold codeC at hc
  split at hc
  · have := he.2 c hc
    have := ins_need z
    omega
  · rename_i q
    by_cases y : c = e
    · rw [y] at z
      exact q (ins_first h z)
    · have := he.2 c (by omega)
      have := ins_need z
      omega
theorem code_len (t : T3) (e : Nat) : e ≤ codeC t e ∧ codeC t e ≤ e + 1 := by
  unfold codeC
  split <;> omega
end M09
set_option linter.all false
/-! Decoding bits by the interval, without the program. -/
namespace M10
open M08 M09
theorem symAt_uniq : ∀ (l : List Int) (x : Int) (s : Nat), (∀ y ∈ l, 0 ≤ y) → s < l.length → (l.take s).sum ≤ x → x < (l.take (s + 1)).sum → symAt l x = s
  | [], x, s, _, h, _, _ => by simp at h
  | w :: r, x, 0, hl, h, h1, h2 => by
    unfold symAt
    simp at h2
    rw [if_pos h2]
  | w :: r, x, s + 1, hl, h, h1, h2 => by
    rw [List.take_succ_cons, List.sum_cons] at h1 h2
    have := take_nonneg (l := r) (fun y hy => hl y (by simp [hy])) s
    unfold symAt
    rw [if_neg (by omega), symAt_uniq r (x - w) s (fun y hy => hl y (by simp [hy])) (by simpa using h) (by omega) (by omega)]
def num (v : Int) (c : Nat) (row : List Int) (t : T3) : Int := (v * t.whole - t.low * 2 ^ c) * row.sum
def sOf (v : Int) (c : Nat) (row : List Int) (t : T3) : Nat := symAt row (num v c row t / (t.width * 2 ^ c))
section
variable {k n : Nat} {t : T3} {row : List Int} {v : Int} {c s : Nat}
theorem div_pos (ht : Tr k t) : 0 < t.width * 2 ^ c := Int.mul_pos (by have := ht.width; omega) (Int.pow_pos (by decide))
theorem whole_pos (ht : Tr k t) : 1 ≤ t.whole := by have := ht.low; have := ht.width; have := ht.whole; omega
theorem x_range (ht : Tr k t) (hr : RowOk n row) (hi : ins t v c) : 0 ≤ num v c row t / (t.width * 2 ^ c) ∧ num v c row t / (t.width * 2 ^ c) < row.sum := by
  have hD := div_pos (c := c) ht
  have hS := hr.2.2
  have hw := whole_pos ht
  obtain ⟨h1, h2⟩ := hi
  refine ⟨Int.ediv_nonneg ?_ (by omega), Int.ediv_lt_of_lt_mul hD ?_⟩
  · exact Int.mul_nonneg (by omega) (by omega)
  · have a : v * t.whole - t.low * 2 ^ c < t.width * 2 ^ c := by
      have e1 : (v + 1) * t.whole = v * t.whole + t.whole := by grind
      have e2 : (t.low + t.width) * 2 ^ c = t.low * 2 ^ c + t.width * 2 ^ c := by grind
      omega
    have b := Int.mul_lt_mul_of_pos_right a (show 0 < row.sum by omega)
    show (v * t.whole - t.low * 2 ^ c) * row.sum < row.sum * (t.width * 2 ^ c)
    rw [Int.mul_comm row.sum]
    exact b
theorem sOf_lt (ht : Tr k t) (hr : RowOk n row) (hi : ins t v c) : sOf v c row t < n ∧ 1 ≤ row.getD (sOf v c row t) 0 := by
  obtain ⟨h1, h2⟩ := x_range ht hr hi
  obtain ⟨a, b, d⟩ := symAt_spec row _ hr.2.1 h1 h2
  have e := sum_take_succ row (symAt row (num v c row t / (t.width * 2 ^ c))) a
  rw [← hr.1]
  refine ⟨a, ?_⟩
  show 1 ≤ row.getD (symAt row (num v c row t / (t.width * 2 ^ c))) 0
  omega
theorem ins_pos (ht : Tr k t) (hr : RowOk n row) (h : ins (stp t row s) v c) : 1 ≤ row.getD s 0 := by
  have h1 := ins_need h
  have hw : 1 ≤ t.whole * row.sum := by
    have := Int.mul_le_mul (whole_pos ht) hr.2.2 (by decide) (by have := whole_pos ht; omega)
    omega
  have h2 : t.whole * row.sum ≤ t.width * row.getD s 0 * 2 ^ c := h1
  have h3 := getD_nonneg hr.2.1 s
  by_cases z : row.getD s 0 = 0
  · rw [z, Int.mul_zero, Int.zero_mul] at h2
    omega
  · omega
/-- the symbol whose part holds all fractions is the one at the number -/
theorem uniq (ht : Tr k t) (hr : RowOk n row) (hs : s < n) (h : ins (stp t row s) v c) : s = sOf v c row t := by
  have hD := div_pos (c := c) ht
  have hS := hr.2.2
  have hw := whole_pos ht
  obtain ⟨h1, h2⟩ := h
  have e := sum_take_succ row s (by rw [hr.1]; exact hs)
  refine (symAt_uniq row _ s hr.2.1 (by rw [hr.1]; exact hs) ?_ ?_).symm
  · refine (Int.le_ediv_iff_mul_le hD).mpr ?_
    have g : (t.low * row.sum + t.width * (row.take s).sum) * 2 ^ c ≤ v * (t.whole * row.sum) := h1
    unfold num
    have e1 : (t.low * row.sum + t.width * (row.take s).sum) * 2 ^ c = t.low * 2 ^ c * row.sum + (row.take s).sum * (t.width * 2 ^ c) := by grind
    have e2 : (v * t.whole - t.low * 2 ^ c) * row.sum = v * (t.whole * row.sum) - t.low * 2 ^ c * row.sum := by grind
    omega
  · refine Int.ediv_lt_of_lt_mul hD ?_
    have g : (v + 1) * (t.whole * row.sum) ≤ (t.low * row.sum + t.width * (row.take s).sum + t.width * row.getD s 0) * 2 ^ c := h2
    unfold num
    have e1 : (t.low * row.sum + t.width * (row.take s).sum + t.width * row.getD s 0) * 2 ^ c = t.low * 2 ^ c * row.sum + ((row.take s).sum + row.getD s 0) * (t.width * 2 ^ c) := by grind
    have e2 : (v * t.whole - t.low * 2 ^ c) * row.sum = v * (t.whole * row.sum) - t.low * 2 ^ c * row.sum := by grind
    have e3 : (v + 1) * (t.whole * row.sum) = v * (t.whole * row.sum) + t.whole * row.sum := by grind
    have e4 : 0 < t.whole * row.sum := Int.mul_pos (by omega) (by omega)
    rw [e]
    omega
/-- a part lies within the whole -/
theorem nested (ht : Tr k t) (hr : RowOk n row) (hs : s < n) (h : ins (stp t row s) v c) : ins t v c := by
  have hS := hr.2.2
  have h0 := take_nonneg hr.2.1 s
  have hp : (0 : Int) < 2 ^ c := Int.pow_pos (by decide)
  obtain ⟨h1, h2⟩ := h
  have e := sum_take_succ row s (by rw [hr.1]; exact hs)
  have a3 : (row.take (s + 1)).sum ≤ row.sum := by
    have e : row.sum = (row.take (s + 1)).sum + (row.drop (s + 1)).sum := by rw [← List.sum_append, List.take_append_drop]
    have := sum_nonneg (row.drop (s + 1)) fun x hx => hr.2.1 x (List.mem_of_mem_drop hx)
    omega
  have hw := ht.width
  refine ⟨?_, ?_⟩
  · refine Int.le_of_mul_le_mul_right (a := row.sum) ?_ (by omega)
    have g : (t.low * row.sum + t.width * (row.take s).sum) * 2 ^ c ≤ v * (t.whole * row.sum) := h1
    have e1 : (t.low * row.sum + t.width * (row.take s).sum) * 2 ^ c = t.low * 2 ^ c * row.sum + t.width * (row.take s).sum * 2 ^ c := by grind
    have e2 : v * t.whole * row.sum = v * (t.whole * row.sum) := by grind
    have e3 : 0 ≤ t.width * (row.take s).sum * 2 ^ c := Int.mul_nonneg (Int.mul_nonneg (by omega) h0) (by omega)
    omega
  · refine Int.le_of_mul_le_mul_right (a := row.sum) ?_ (by omega)
    have g : (v + 1) * (t.whole * row.sum) ≤ (t.low * row.sum + t.width * (row.take s).sum + t.width * row.getD s 0) * 2 ^ c := h2
    have b2 : t.width * (row.take (s + 1)).sum * 2 ^ c ≤ t.width * row.sum * 2 ^ c := Int.mul_le_mul_of_nonneg_right (Int.mul_le_mul_of_nonneg_left a3 (by omega)) (by omega)
    have e1 : (t.low * row.sum + t.width * (row.take s).sum + t.width * row.getD s 0) * 2 ^ c = t.low * row.sum * 2 ^ c + t.width * (row.take (s + 1)).sum * 2 ^ c := by rw [e]; grind
    have e2 : (v + 1) * t.whole * row.sum = (v + 1) * (t.whole * row.sum) := by grind
    have e3 : (t.low + t.width) * 2 ^ c * row.sum = t.low * row.sum * 2 ^ c + t.width * row.sum * 2 ^ c := by grind
    omega
/-- more bits behind -/
theorem ins_more {x : Int} {b : Nat} (ht : Tr k t) (h : ins t v c) (h0 : 0 ≤ x) (h1 : x < 2 ^ b) : ins t (v * 2 ^ b + x) (c + b) := by
  have hw := whole_pos ht
  have hp : (0 : Int) < 2 ^ b := Int.pow_pos (by decide)
  obtain ⟨g1, g2⟩ := h
  have m1 := Int.mul_le_mul_of_nonneg_right g1 (Int.le_of_lt hp)
  have m2 := Int.mul_le_mul_of_nonneg_right g2 (Int.le_of_lt hp)
  have m3 : 0 ≤ x * t.whole := Int.mul_nonneg h0 (by omega)
  have m4 : (x + 1) * t.whole ≤ 2 ^ b * t.whole := Int.mul_le_mul_of_nonneg_right (by omega) (by omega)
  refine ⟨?_, ?_⟩
  · rw [Int.pow_add]
    have e1 : t.low * (2 ^ c * 2 ^ b) = t.low * 2 ^ c * 2 ^ b := by grind
    have e2 : (v * 2 ^ b + x) * t.whole = v * t.whole * 2 ^ b + x * t.whole := by grind
    omega
  · rw [Int.pow_add]
    have e1 : (t.low + t.width) * (2 ^ c * 2 ^ b) = (t.low + t.width) * 2 ^ c * 2 ^ b := by grind
    have e2 : (v * 2 ^ b + x + 1) * t.whole = v * t.whole * 2 ^ b + (x + 1) * t.whole := by grind
    have e3 : (v + 1) * t.whole * 2 ^ b = v * t.whole * 2 ^ b + 2 ^ b * t.whole := by grind
    omega
theorem ins0 (h0 : 0 ≤ v) (h1 : v < 2 ^ c) : ins ⟨0, 1, 1⟩ v c := ⟨by show (0 : Int) * 2 ^ c ≤ v * 1; omega, by show (v + 1) * 1 ≤ (0 + 1) * (2 : Int) ^ c; omega⟩
end
abbrev t0 : T3 := ⟨0, 1, 1⟩
/-- decoding: so many symbols more, behind those told -/
def dec (v : Int) (c : Nat) (m0 : Md) : Nat → List Nat → List Nat ⊕ Nat
  | 0, acc => .inl acc
  | k + 1, acc => if ins (itv m0 (acc ++ [sOf v c (mds m0 acc).row (itv m0 acc t0)]) t0) v c then dec v c m0 k (acc ++ [sOf v c (mds m0 acc).row (itv m0 acc t0)]) else .inr acc.length
theorem prefix_ins {n : Nat} {m0 : Md} {v : Int} {c : Nat} (g : Good n m0) : ∀ (b a : List Nat), Msg n m0 (a ++ b) → ins (itv m0 (a ++ b) t0) v c → ins (itv m0 a t0) v c
  | [], a, _, h => by simpa using h
  | s :: r, a, hm, h => by
    have e : a ++ s :: r = (a ++ [s]) ++ r := by simp
    rw [e] at hm h
    have h2 := prefix_ins g r (a ++ [s]) hm h
    have ha : Msg n m0 a := fun x hx => hm x (by simp [hx])
    have hg := mds_good a m0 g fun x hx => (ha x hx).1
    rw [itv_snoc] at h2
    have ht := itv_tr a m0 t0 0 g ha tr0
    exact nested ht hg.ok.row (hm s (by simp)).1 h2
theorem dec_ok {n : Nat} {m0 : Md} {v : Int} {c : Nat} (g : Good n m0) : ∀ (b a : List Nat), Msg n m0 (a ++ b) → ins (itv m0 (a ++ b) t0) v c → dec v c m0 b.length a = .inl (a ++ b)
  | [], a, _, _ => by simp [dec]
  | s :: r, a, hm, h => by
    have e : a ++ s :: r = (a ++ [s]) ++ r := by simp
    rw [e] at hm h
    have h2 := prefix_ins g r (a ++ [s]) hm h
    have ha : Msg n m0 a := fun x hx => hm x (by simp [hx])
    have hg := mds_good a m0 g fun x hx => (ha x hx).1
    have ht := itv_tr a m0 t0 0 g ha tr0
    have h3 := h2
    rw [itv_snoc] at h3
    have hu := uniq ht hg.ok.row (hm s (by simp)).1 h3
    rw [List.length_cons]
    unfold dec
    rw [← hu, if_pos h2, dec_ok g r (a ++ [s]) hm h, e]
end M10
set_option linter.all false
/-! The mathematics of ranks, rests and choices: plain lists. -/
namespace M03
def wAt (ws : List Int) (k : Nat) : Int := ws.getD k 0
/-- k comes before j -/
def Rk (ws : List Int) (k j : Nat) : Prop := wAt ws j < wAt ws k ∨ (wAt ws k = wAt ws j ∧ k < j)
structure IsRank (ws : List Int) (ord : List Nat) : Prop where
  pw : ord.Pairwise (Rk ws)
  mem : ∀ k, k ∈ ord ↔ k < ws.length
theorem Rk.irrefl {ws : List Int} {k : Nat} (h : Rk ws k k) : False := by
  unfold Rk at h; omega
theorem Rk.asymm {ws : List Int} {k j : Nat} (h : Rk ws k j) (h2 : Rk ws j k) : False := by
  unfold Rk at h h2; omega
theorem Rk.trans {ws : List Int} {k j i : Nat} (h : Rk ws k j) (h2 : Rk ws j i) : Rk ws k i := by
  unfold Rk at *; omega
theorem Rk.total {ws : List Int} {k j : Nat} (h : k ≠ j) : Rk ws k j ∨ Rk ws j k := by
  unfold Rk; omega
theorem uniq (ws : List Int) : ∀ (a b : List Nat), a.Pairwise (Rk ws) → b.Pairwise (Rk ws) → (∀ k, k ∈ a ↔ k ∈ b) → a = b
  | [], [], _, _, _ => rfl
  | [], y :: b, _, _, h => absurd ((h y).mpr List.mem_cons_self) (by simp)
  | x :: a, [], _, _, h => absurd ((h x).mp List.mem_cons_self) (by simp)
  | x :: a, y :: b, ha, hb, h => by
    have ha' := List.pairwise_cons.mp ha
    have hb' := List.pairwise_cons.mp hb
    have e : x = y := by
      rcases List.mem_cons.mp ((h x).mp List.mem_cons_self) with e | e
      · exact e
      · rcases List.mem_cons.mp ((h y).mpr List.mem_cons_self) with e2 | e2
        · exact e2.symm
        · exact (Rk.asymm (hb'.1 x e) (ha'.1 y e2)).elim
    subst e
    rw [uniq ws a b ha'.2 hb'.2 fun k => ?_]
    constructor
    · intro hk
      rcases List.mem_cons.mp ((h k).mp (List.mem_cons_of_mem _ hk)) with e | e
      · subst e; exact (Rk.irrefl (ha'.1 _ hk)).elim
      · exact e
    · intro hk
      rcases List.mem_cons.mp ((h k).mpr (List.mem_cons_of_mem _ hk)) with e | e
      · subst e; exact (Rk.irrefl (hb'.1 _ hk)).elim
      · exact e
theorem IsRank.uniq {ws : List Int} {a b : List Nat} (ha : IsRank ws a) (hb : IsRank ws b) : a = b := M03.uniq ws a b ha.pw hb.pw fun k => (ha.mem k).trans (hb.mem k).symm
def leK (ws : List Int) (k j : Nat) : Bool := decide (wAt ws j < wAt ws k ∨ (wAt ws k = wAt ws j ∧ k ≤ j))
def rankL (ws : List Int) : List Nat := (List.range ws.length).mergeSort (leK ws)
theorem rank_perm (ws : List Int) : (rankL ws).Perm (List.range ws.length) := List.mergeSort_perm _ _
theorem rank_is (ws : List Int) : IsRank ws (rankL ws) := by
  refine ⟨?_, fun k => ?_⟩
  · have h1 : (rankL ws).Pairwise fun a b => leK ws a b = true := List.pairwise_mergeSort (fun a b c => by unfold leK; simp only [decide_eq_true_eq]; omega) (fun a b => by unfold leK; simp only [Bool.or_eq_true, decide_eq_true_eq]; omega) _
    have h2 : (rankL ws).Nodup := (rank_perm ws).nodup_iff.mpr List.nodup_range
    have h3 := h1.and h2
    refine h3.imp fun {a b} h => ?_
    obtain ⟨h4, h5⟩ := h
    unfold leK at h4
    unfold Rk
    have h6 := of_decide_eq_true h4
    have h7 : a ≠ b := h5
    omega
  · rw [(rank_perm ws).mem_iff, List.mem_range]
theorem rank_len (ws : List Int) : (rankL ws).length = ws.length := by rw [(rank_perm ws).length_eq, List.length_range]
theorem rank_lt {ws : List Int} {k : Nat} (h : k ∈ rankL ws) : k < ws.length := ((rank_is ws).mem k).mp h
/-- choosing the best of the rest again and again -/
structure Part (ws : List Int) (ord : List Nat) : Prop where
  pw : ord.Pairwise (Rk ws)
  lt : ∀ k ∈ ord, k < ws.length
  before : ∀ k ∈ ord, ∀ j, j < ws.length → j ∉ ord → Rk ws k j
theorem Part.nil (ws : List Int) : Part ws [] := ⟨.nil, by simp, by simp⟩
/-- b: the best among the first i that ord has not -/
def Best (ws : List Int) (ord : List Nat) (i : Nat) : Option Nat → Prop
  | none => ∀ j, j < i → j ∈ ord
  | some b => b < i ∧ b ∉ ord ∧ ∀ j, j < i → j ∉ ord → j ≠ b → Rk ws b j
theorem Part.add {ws : List Int} {ord : List Nat} {b : Nat} (p : Part ws ord) (h : Best ws ord ws.length (some b)) : Part ws (ord ++ [b]) := by
  obtain ⟨h1, h2, h3⟩ := h
  refine ⟨List.pairwise_append.mpr ⟨p.pw, List.pairwise_singleton _ _, fun a ha c hc => ?_⟩, fun k hk => ?_, fun k hk j hj hn => ?_⟩
  · rw [List.mem_singleton.mp hc]
    exact p.before a ha b h1 h2
  · rcases List.mem_append.mp hk with h | h
    · exact p.lt k h
    · rw [List.mem_singleton.mp h]; exact h1
  · have hn1 : j ∉ ord := fun z => hn (List.mem_append_left _ z)
    have hn2 : j ≠ b := fun z => hn (by rw [z]; exact List.mem_append_right _ (List.mem_singleton.mpr rfl))
    rcases List.mem_append.mp hk with h | h
    · exact p.before k h j hj hn1
    · rw [List.mem_singleton.mp h]
      exact h3 j hj hn1 hn2
theorem nodup_sub : ∀ (l m : List Nat), l.Nodup → (∀ x ∈ l, x ∈ m) → l.length ≤ m.length
  | [], _, _, _ => Nat.zero_le _
  | x :: l, m, h, hs => by
    have h' := List.nodup_cons.mp h
    have hx := hs x List.mem_cons_self
    have h1 := nodup_sub l (m.erase x) h'.2 fun y hy => (List.mem_erase_of_ne (fun e => h'.1 (by rw [← e]; exact hy))).mpr (hs y (List.mem_cons_of_mem _ hy))
    rw [List.length_erase_of_mem hx] at h1
    have h2 := List.length_pos_of_mem hx
    simp only [List.length_cons]
    omega
theorem nodup_le {ord : List Nat} {n : Nat} (h : ord.Nodup) (hl : ∀ k ∈ ord, k < n) : ord.length ≤ n := by
  have h2 := nodup_sub ord (List.range n) h fun k hk => List.mem_range.mpr (hl k hk)
  rwa [List.length_range] at h2
theorem Part.nodup {ws : List Int} {ord : List Nat} (p : Part ws ord) : ord.Nodup := p.pw.imp fun {a b} h e => by subst e; exact h.irrefl
/-- a best one is there while ord is not whole -/
theorem Part.some {ws : List Int} {ord : List Nat} (p : Part ws ord) (h : ord.length < ws.length) {o : Option Nat} (hb : Best ws ord ws.length o) : ∃ b, o = .some b := by
  cases o with
  | some b => exact ⟨b, rfl⟩
  | none =>
    have h2 := nodup_sub (List.range ws.length) ord List.nodup_range fun k hk => hb k (List.mem_range.mp hk)
    rw [List.length_range] at h2
    omega
theorem Part.whole {ws : List Int} {ord : List Nat} (p : Part ws ord) (h : ord.length = ws.length) : ord = rankL ws := by
  refine IsRank.uniq ⟨p.pw, fun k => ⟨p.lt k, fun hk => ?_⟩⟩ (rank_is ws)
  by_cases hm : k ∈ ord
  · exact hm
  · exfalso
    have h2 : (k :: ord).Nodup := List.nodup_cons.mpr ⟨hm, p.nodup⟩
    have h3 := nodup_le h2 (n := ws.length) fun j hj => by
      rcases List.mem_cons.mp hj with e | e
      · rw [e]; exact hk
      · exact p.lt j e
    simp only [List.length_cons] at h3
    omega
theorem Best.zero (ws : List Int) (ord : List Nat) : Best ws ord 0 none := fun j h => absurd h (Nat.not_lt_zero j)
theorem Best.skip {ws : List Int} {ord : List Nat} {i : Nat} {o : Option Nat} (h : Best ws ord i o) (hi : i ∈ ord) : Best ws ord (i + 1) o := by
  cases o with
  | none =>
    intro j hj
    by_cases e : j = i
    · rw [e]; exact hi
    · exact h j (by omega)
  | some b =>
    obtain ⟨h1, h2, h3⟩ := h
    refine ⟨by omega, h2, fun j hj hn hb => ?_⟩
    by_cases e : j = i
    · rw [e] at hn; exact absurd hi hn
    · exact h3 j (by omega) hn hb
theorem Best.first {ws : List Int} {ord : List Nat} {i : Nat} (h : Best ws ord i none) (hi : i ∉ ord) : Best ws ord (i + 1) (some i) := by
  refine ⟨by omega, hi, fun j hj hn hb => ?_⟩
  exact absurd (h j (by omega)) hn
theorem Best.take {ws : List Int} {ord : List Nat} {i b : Nat} (h : Best ws ord i (some b)) (hi : i ∉ ord) (hw : wAt ws b < wAt ws i) : Best ws ord (i + 1) (some i) := by
  obtain ⟨h1, h2, h3⟩ := h
  refine ⟨by omega, hi, fun j hj hn hb => ?_⟩
  by_cases e : j = b
  · rw [e]; exact .inl hw
  · have := h3 j (by omega) hn e
    exact Rk.trans (.inl hw) this
theorem Best.keep {ws : List Int} {ord : List Nat} {i b : Nat} (h : Best ws ord i (some b)) (hw : ¬ wAt ws b < wAt ws i) : Best ws ord (i + 1) (some b) := by
  obtain ⟨h1, h2, h3⟩ := h
  refine ⟨by omega, h2, fun j hj hn hb => ?_⟩
  by_cases e : j = i
  · rw [e]; unfold Rk; omega
  · exact h3 j (by omega) hn hb

/-! ### rests -/
def restL : List Int → List Int
  | [] => [0]
  | v :: r => (v + (restL r).headD 0) :: restL r
theorem restL_len : ∀ vs : List Int, (restL vs).length = vs.length + 1
  | [] => rfl
  | v :: r => by simp [restL, restL_len r]
def ranked (ws : List Int) : List Int := (rankL ws).map (wAt ws)
theorem ranked_len (ws : List Int) : (ranked ws).length = ws.length := by simp [ranked, rank_len]
theorem ranked_perm (ws : List Int) : (ranked ws).Perm ws := by
  have h := (rank_perm ws).map (wAt ws)
  have e : (List.range ws.length).map (wAt ws) = ws := by
    refine List.ext_getElem (by simp) fun i h1 h2 => ?_
    simp [wAt, List.getD_eq_getElem?_getD, h2]
  rw [e] at h
  exact h
theorem ranked_desc (ws : List Int) : (ranked ws).Pairwise (fun a b => b ≤ a) := by
  unfold ranked
  refine List.pairwise_map.mpr ((rank_is ws).pw.imp fun {a b} h => ?_)
  unfold Rk at h
  omega
theorem sorted_uniq : ∀ (a b : List Int), a.Pairwise (· ≤ ·) → b.Pairwise (· ≤ ·) → a.Perm b → a = b
  | [], b, _, _, h => (List.Perm.nil_eq h)
  | x :: a, [], _, _, h => absurd h.length_eq (by simp)
  | x :: a, y :: b, ha, hb, h => by
    have ha' := List.pairwise_cons.mp ha
    have hb' := List.pairwise_cons.mp hb
    have e : x = y := by
      have h1 : x ≤ y := by
        rcases List.mem_cons.mp (h.mem_iff.mpr (List.mem_cons_self (a := y) (l := b))) with e | e
        · omega
        · exact ha'.1 y e
      have h2 : y ≤ x := by
        rcases List.mem_cons.mp (h.mem_iff.mp (List.mem_cons_self (a := x) (l := a))) with e | e
        · omega
        · exact hb'.1 x e
      omega
    subst e
    rw [sorted_uniq a b ha'.2 hb'.2 h.cons_inv]
theorem asc_is {ws asc : List Int} (h : asc.Perm ws) (hs : asc.Pairwise (· ≤ ·)) : asc = (ranked ws).reverse := by
  refine sorted_uniq _ _ hs (List.pairwise_reverse.mpr (ranked_desc ws)) ?_
  exact h.trans ((ranked_perm ws).symm.trans (List.reverse_perm _).symm)
/-- sums of the beginnings -/
def pre : List Int → List Int
  | [] => [0]
  | v :: r => 0 :: (pre r).map (v + ·)
def sumsA : List Int → List Int → List Int := fun acc vs => vs.foldl (fun acc v => acc ++ [acc.getLastD 0 + v]) acc
theorem restL_snoc : ∀ (vs : List Int), ∀ l, l = vs.reverse → ∀ v, restL (v :: vs) = (v + (restL vs).headD 0) :: restL vs := fun _ _ _ _ => rfl
/-! ### the choices -/
abbrev Nxt := Option (Int × Int × Int)
def chOne (sums : List Int) (limit depth m k : Int) (a : Nat) : Option (Int × Int × Nxt) :=
  let n : Int := (sums.length : Int) - 1
  let ok : Bool := if depth = limit then decide ((a : Int) = n - m) else (decide (0 < depth) || decide ((a : Int) = 0))
  if ok && decide (m + a = n) then some (a, 0, none)
  else if ok && decide ((a : Int) < k) then some (a, sums.getD (m + a).toNat 0, some (depth + 1, m + a, if n - m - a < 2 * (k - a) then n - m - a else 2 * (k - a)))
  else none
def chN (sums : List Int) (m k : Int) : Nat := ((if (sums.length : Int) - 1 - m < k then (sums.length : Int) - 1 - m else k) + 1).toNat
def chL (sums : List Int) (limit depth m k : Int) : List (Int × Int × Nxt) := (List.range (chN sums m k)).filterMap (chOne sums limit depth m k)
end M03
set_option linter.all false
/-! The mathematics of prefix codes: lengths, room, canonical words. -/
namespace M01
def lnA (ls : List Int) (k : Nat) : Nat := (ls.getD k 0).toNat
/-- lengths from 0 to 20 -/
def Lok (ls : List Int) : Prop := ∀ x ∈ ls, 0 ≤ x ∧ x ≤ 20
def share (x : Int) : Int := if x = 0 then 0 else (2 : Int) ^ (20 - x.toNat)
def kraft (ls : List Int) : Int := (ls.map share).sum
def roomL (ls : List Int) : Int := 1048576 - kraft ls
theorem kraft_app (a b : List Int) : kraft (a ++ b) = kraft a + kraft b := by
  unfold kraft
  rw [List.map_append, List.sum_append]
theorem pow_nn (n : Nat) : (0 : Int) ≤ 2 ^ n := Int.le_of_lt (Int.pow_pos (by decide))
theorem share_nn (x : Int) : 0 ≤ share x := by
  unfold share
  split
  · exact Int.le_refl _
  · exact pow_nn _
theorem pow20 : ∀ l : Nat, l ≤ 20 → (1048576 : Int) / (1 * 2 ^ l) = 2 ^ (20 - l) := fun l h => by
  have : ∀ l : Fin 21, (1048576 : Int) / (1 * 2 ^ l.val) = 2 ^ (20 - l.val) := by decide
  exact this ⟨l, by omega⟩
theorem share_bd (x : Int) : share x ≤ 1048576 := by
  unfold share
  split
  · decide
  · have : ∀ y : Fin 21, (2 : Int) ^ y.val ≤ 1048576 := by decide
    exact this ⟨20 - x.toNat, by omega⟩
theorem kraft_zero : ∀ ls : List Int, (∀ x ∈ ls, x = 0) → kraft ls = 0
  | [], _ => rfl
  | x :: r, h => by
    have h1 := kraft_zero r fun y hy => h y (List.mem_cons_of_mem _ hy)
    have h2 := h x List.mem_cons_self
    subst h2
    show share 0 + kraft r = 0
    rw [h1]
    rfl
/-! ### the order: by length, then by symbol -/
def Lx (ls : List Int) (k j : Nat) : Prop := lnA ls k < lnA ls j ∨ (lnA ls k = lnA ls j ∧ k < j)
theorem Lx.irrefl {ls : List Int} {k : Nat} (h : Lx ls k k) : False := by
  unfold Lx at h; omega
theorem Lx.asymm {ls : List Int} {k j : Nat} (h : Lx ls k j) (h2 : Lx ls j k) : False := by
  unfold Lx at h h2; omega
theorem uniq (ls : List Int) : ∀ (a b : List Nat), a.Pairwise (Lx ls) → b.Pairwise (Lx ls) → (∀ k, k ∈ a ↔ k ∈ b) → a = b
  | [], [], _, _, _ => rfl
  | [], y :: b, _, _, h => absurd ((h y).mpr List.mem_cons_self) (by simp)
  | x :: a, [], _, _, h => absurd ((h x).mp List.mem_cons_self) (by simp)
  | x :: a, y :: b, ha, hb, h => by
    have ha' := List.pairwise_cons.mp ha
    have hb' := List.pairwise_cons.mp hb
    have e : x = y := by
      rcases List.mem_cons.mp ((h x).mp List.mem_cons_self) with e | e
      · exact e
      · rcases List.mem_cons.mp ((h y).mpr List.mem_cons_self) with e2 | e2
        · exact e2.symm
        · exact (Lx.asymm (hb'.1 x e) (ha'.1 y e2)).elim
    subst e
    rw [uniq ls a b ha'.2 hb'.2 fun k => ?_]
    constructor
    · intro hk
      rcases List.mem_cons.mp ((h k).mp (List.mem_cons_of_mem _ hk)) with e | e
      · subst e; exact (Lx.irrefl (ha'.1 _ hk)).elim
      · exact e
    · intro hk
      rcases List.mem_cons.mp ((h k).mpr (List.mem_cons_of_mem _ hk)) with e | e
      · subst e; exact (Lx.irrefl (hb'.1 _ hk)).elim
      · exact e
structure IsOrd (ls : List Int) (o : List Nat) : Prop where
  pw : o.Pairwise (Lx ls)
  mem : ∀ k, k ∈ o ↔ k < ls.length ∧ 0 < lnA ls k
/-- the order as far as (L, k) -/
structure Proc (ls : List Int) (L k : Nat) (o : List Nat) : Prop where
  pw : o.Pairwise (Lx ls)
  mem : ∀ s, s ∈ o ↔ s < ls.length ∧ 0 < lnA ls s ∧ (lnA ls s < L ∨ (lnA ls s = L ∧ s < k))
theorem Proc.zero (ls : List Int) : Proc ls 1 0 [] := ⟨.nil, fun s => by simp; omega⟩
theorem Proc.skip {ls : List Int} {L k : Nat} {o : List Nat} (h : Proc ls L k o) (e : lnA ls k ≠ L) : Proc ls L (k + 1) o := ⟨h.pw, fun s => by
  rw [h.mem]
  constructor
  · rintro ⟨a, b, c⟩
    exact ⟨a, b, by omega⟩
  · rintro ⟨a, b, c⟩
    refine ⟨a, b, ?_⟩
    rcases c with c | ⟨c, d⟩
    · exact .inl c
    · by_cases z : s = k
      · subst z; exact absurd c e
      · exact .inr ⟨c, by omega⟩⟩
theorem Proc.add {ls : List Int} {L k : Nat} {o : List Nat} (h : Proc ls L k o) (e : lnA ls k = L) (hL : 0 < L) (hk : k < ls.length) : Proc ls L (k + 1) (o ++ [k]) ∧ k ∉ o := by
  have hn : k ∉ o := fun z => by have := (h.mem k).mp z; omega
  refine ⟨⟨List.pairwise_append.mpr ⟨h.pw, List.pairwise_singleton _ _, fun a ha b hb => ?_⟩, fun s => ?_⟩, hn⟩
  · rw [List.mem_singleton.mp hb]
    have := (h.mem a).mp ha
    unfold Lx
    omega
  · rw [List.mem_append, h.mem, List.mem_singleton]
    constructor
    · rintro (⟨a, b, c⟩ | rfl)
      · exact ⟨a, b, by omega⟩
      · exact ⟨hk, by omega, by omega⟩
    · rintro ⟨a, b, c⟩
      by_cases z : s = k
      · exact .inr z
      · exact .inl ⟨a, b, by omega⟩
theorem Proc.next {ls : List Int} {L : Nat} {o : List Nat} (h : Proc ls L ls.length o) : Proc ls (L + 1) 0 o := ⟨h.pw, fun s => by
  rw [h.mem]
  constructor
  · rintro ⟨a, b, c⟩
    exact ⟨a, b, by omega⟩
  · rintro ⟨a, b, c⟩
    exact ⟨a, b, by omega⟩⟩
theorem ln_le {ls : List Int} (h : Lok ls) (k : Nat) : lnA ls k ≤ 20 := by
  unfold lnA
  by_cases hk : k < ls.length
  · have := h _ (List.getElem_mem hk)
    rw [List.getD_eq_getElem?_getD, List.getElem?_eq_getElem hk]
    show (ls[k]).toNat ≤ 20
    omega
  · rw [List.getD_eq_getElem?_getD, List.getElem?_eq_none (by omega)]
    decide
theorem Proc.whole {ls : List Int} {o : List Nat} (hl : Lok ls) (h : Proc ls 21 0 o) : IsOrd ls o := ⟨h.pw, fun s => by
  rw [h.mem]
  have := ln_le hl s
  constructor
  · rintro ⟨a, b, c⟩
    exact ⟨a, b⟩
  · rintro ⟨a, b⟩
    exact ⟨a, b, by omega⟩⟩
theorem IsOrd.uniq {ls : List Int} {a b : List Nat} (ha : IsOrd ls a) (hb : IsOrd ls b) : a = b := M01.uniq ls a b ha.pw hb.pw fun k => (ha.mem k).trans (hb.mem k).symm
/-! ### words -/
def bitsL (x l : Nat) : List Int := (List.range l).map fun j => ((x / 2 ^ (l - 1 - j) % 2 : Nat) : Int)
theorem bits_len (x l : Nat) : (bitsL x l).length = l := by simp [bitsL]
def xs (ls : List Int) (o : List Nat) : Nat := (o.map fun s => 2 ^ (20 - lnA ls s)).sum
theorem xs_snoc (ls : List Int) (o : List Nat) (s : Nat) : xs ls (o ++ [s]) = xs ls o + 2 ^ (20 - lnA ls s) := by
  unfold xs
  rw [List.map_append, List.sum_append]
  simp
def wd (ls : List Int) (o : List Nat) (s : Nat) : List Int := bitsL (xs ls o / 2 ^ (20 - lnA ls s)) (lnA ls s)
def upTo (o : List Nat) (k : Nat) : List Nat := o.takeWhile fun x => decide (x ≠ k)
theorem upTo_app {o : List Nat} {k s : Nat} (h : k ∈ o) : upTo (o ++ [s]) k = upTo o k := by
  unfold upTo
  induction o with
  | nil => simp at h
  | cons x r ih =>
    by_cases e : x = k
    · subst e
      simp
    · have h' : k ∈ r := by
        rcases List.mem_cons.mp h with z | z
        · exact absurd z.symm e
        · exact z
      simp only [List.cons_append]
      rw [List.takeWhile_cons_of_pos (by simpa using e), List.takeWhile_cons_of_pos (by simpa using e), ih h']
theorem upTo_new {o : List Nat} {s : Nat} (h : s ∉ o) : upTo (o ++ [s]) s = o := by
  unfold upTo
  induction o with
  | nil => simp
  | cons x r ih =>
    have hx : x ≠ s := fun z => h (by rw [z]; exact List.mem_cons_self)
    simp only [List.cons_append]
    rw [List.takeWhile_cons_of_pos (by simpa using hx), ih fun z => h (List.mem_cons_of_mem _ z)]
def ent (ls : List Int) (o : List Nat) (k : Nat) : Option (List Int) := if k ∈ o then some (wd ls (upTo o k) k) else none
def tabOf (ls : List Int) (o : List Nat) : List (Option (List Int)) := (List.range ls.length).map (ent ls o)
theorem tab_len (ls : List Int) (o : List Nat) : (tabOf ls o).length = ls.length := by simp [tabOf]
theorem tab_at {ls : List Int} {o : List Nat} {k : Nat} (h : k < ls.length) : (tabOf ls o)[k]? = some (ent ls o k) := by
  unfold tabOf
  rw [List.getElem?_map, List.getElem?_range h]
  rfl
theorem tab_nil (ls : List Int) : tabOf ls [] = List.replicate ls.length none := by
  refine List.ext_getElem? fun k => ?_
  by_cases h : k < ls.length
  · rw [tab_at h, List.getElem?_replicate, if_pos h]
    rfl
  · rw [List.getElem?_eq_none (by rw [tab_len]; omega), List.getElem?_eq_none (by rw [List.length_replicate]; omega)]
theorem ent_add {ls : List Int} {o : List Nat} {s k : Nat} (hs : s ∉ o) : ent ls (o ++ [s]) k = if k = s then some (wd ls o s) else ent ls o k := by
  unfold ent
  by_cases e : k = s
  · subst e
    rw [if_pos (List.mem_append_right _ (List.mem_singleton.mpr rfl)), if_pos rfl, upTo_new hs]
  · rw [if_neg e]
    by_cases h : k ∈ o
    · rw [if_pos (List.mem_append_left _ h), if_pos h, upTo_app h]
    · rw [if_neg fun z => ?_, if_neg h]
      rcases List.mem_append.mp z with z | z
      · exact h z
      · exact e (List.mem_singleton.mp z)
/-! ### no word begins another one -/
theorem nodup_sum (f : Nat → Nat) : ∀ (l m : List Nat), l.Nodup → (∀ x ∈ l, x ∈ m) → (l.map f).sum ≤ (m.map f).sum
  | [], _, _, _ => Nat.zero_le _
  | x :: l, m, h, hs => by
    have h' := List.nodup_cons.mp h
    have hx := hs x List.mem_cons_self
    have h1 := nodup_sum f l (m.erase x) h'.2 fun y hy => (List.mem_erase_of_ne (fun e => h'.1 (by rw [← e]; exact hy))).mpr (hs y (List.mem_cons_of_mem _ hy))
    have h2 := ((List.perm_cons_erase hx).map f).sum_nat
    rw [h2]
    simp only [List.map_cons, List.sum_cons]
    omega
theorem IsOrd.nodup {ls : List Int} {o : List Nat} (h : IsOrd ls o) : o.Nodup := h.pw.imp fun {a b} h e => by subst e; exact h.irrefl
theorem kraft_sum : ∀ ls : List Int, (∀ x ∈ ls, 0 ≤ x) → (((List.range ls.length).map fun k => if lnA ls k = 0 then 0 else 2 ^ (20 - lnA ls k)).sum : Nat) = kraft ls
  | [], _ => rfl
  | x :: r, h => by
    have ih := kraft_sum r fun y hy => h y (List.mem_cons_of_mem _ hy)
    have hx := h x List.mem_cons_self
    rw [List.length_cons, List.range_succ_eq_map, List.map_cons, List.map_map, List.sum_cons]
    have e : (fun k => if lnA (x :: r) k = 0 then 0 else 2 ^ (20 - lnA (x :: r) k)) ∘ Nat.succ = fun k => if lnA r k = 0 then 0 else 2 ^ (20 - lnA r k) := by
      funext k
      rfl
    rw [e, Int.natCast_add, ih]
    show _ = share x + kraft r
    congr 1
    show (((if x.toNat = 0 then 0 else 2 ^ (20 - x.toNat)) : Nat) : Int) = share x
    unfold share
    by_cases z : x = 0
    · subst z; rfl
    · rw [if_neg (by omega), if_neg z]
      simp
theorem xs_le {ls : List Int} {o : List Nat} (hl : Lok ls) (h : IsOrd ls o) : (xs ls o : Int) ≤ kraft ls := by
  rw [← kraft_sum ls fun x hx => (hl x hx).1]
  have h1 := nodup_sum (fun k => if lnA ls k = 0 then 0 else 2 ^ (20 - lnA ls k)) o (List.range ls.length) h.nodup fun x hx => List.mem_range.mpr ((h.mem x).mp hx).1
  have h2 : (o.map fun k => if lnA ls k = 0 then 0 else 2 ^ (20 - lnA ls k)) = o.map fun s => 2 ^ (20 - lnA ls s) := by
    refine List.map_congr_left fun k hk => ?_
    have := ((h.mem k).mp hk).2
    rw [if_neg (by omega)]
  rw [h2] at h1
  unfold xs
  exact_mod_cast h1
theorem bits_mod (x y : Nat) : ∀ l, (∀ i, i < l → x / 2 ^ i % 2 = y / 2 ^ i % 2) → x % 2 ^ l = y % 2 ^ l
  | 0, _ => by rw [Nat.pow_zero, Nat.mod_one, Nat.mod_one]
  | l + 1, h => by
    rw [Nat.pow_succ, Nat.mod_mul, Nat.mod_mul, bits_mod x y l fun i hi => h i (by omega), h l (by omega)]
theorem bits_inj {x y l : Nat} (hx : x < 2 ^ l) (hy : y < 2 ^ l) (h : bitsL x l = bitsL y l) : x = y := by
  have h1 := bits_mod x y l fun i hi => by
    have h2 := congrArg (fun z => z[l - 1 - i]?) h
    have h3 : l - 1 - (l - 1 - i) = i := by omega
    simp only [bitsL, List.getElem?_map, List.getElem?_range (show l - 1 - i < l by omega), Option.map_some, h3, Option.some.injEq] at h2
    exact_mod_cast h2
  rwa [Nat.mod_eq_of_lt hx, Nat.mod_eq_of_lt hy] at h1
theorem bits_take {x l m : Nat} (h : m ≤ l) : (bitsL x l).take m = bitsL (x / 2 ^ (l - m)) m := by
  refine List.ext_getElem? fun j => ?_
  by_cases hj : j < m
  · rw [List.getElem?_take_of_lt hj]
    simp only [bitsL, List.getElem?_map, List.getElem?_range (show j < l by omega), List.getElem?_range hj, Option.map_some, Nat.div_div_eq_div_mul, ← Nat.pow_add]
    have : l - m + (m - 1 - j) = l - 1 - j := by omega
    rw [this]
  · rw [List.getElem?_eq_none (by rw [List.length_take, bits_len]; omega), List.getElem?_eq_none (by rw [bits_len]; omega)]
/-- where a symbol stands in the order -/
theorem split_at {o : List Nat} {k : Nat} (h : k ∈ o) : ∃ r, o = upTo o k ++ k :: r := by
  unfold upTo
  induction o with
  | nil => simp at h
  | cons x t ih =>
    by_cases e : x = k
    · subst e
      exact ⟨t, by simp⟩
    · have h' : k ∈ t := by
        rcases List.mem_cons.mp h with z | z
        · exact absurd z.symm e
        · exact z
      obtain ⟨r, hr⟩ := ih h'
      refine ⟨r, ?_⟩
      rw [List.takeWhile_cons_of_pos (by simpa using e), List.cons_append, ← hr]
theorem xs_app (ls : List Int) (a b : List Nat) : xs ls (a ++ b) = xs ls a + xs ls b := by
  unfold xs
  rw [List.map_append, List.sum_append]
theorem upTo_mem {o : List Nat} {k x : Nat} (h : x ∈ upTo o k) : x ∈ o := (List.takeWhile_sublist _).subset h
theorem pos_lt {ls : List Int} {o : List Nat} (hl : Lok ls) (h : IsOrd ls o) (hk : kraft ls ≤ 1048576) {k : Nat} (hm : k ∈ o) : xs ls (upTo o k) + 2 ^ (20 - lnA ls k) ≤ 2 ^ 20 := by
  obtain ⟨r, e⟩ := split_at hm
  have h1 := xs_le hl h
  have h2 : xs ls o = xs ls (upTo o k) + (2 ^ (20 - lnA ls k) + xs ls r) := by
    rw (occs := .pos [1]) [e]
    rw [xs_app]
    simp [xs]
  have h3 : ((xs ls o : Nat) : Int) ≤ 1048576 := by omega
  have h4 : xs ls o ≤ 1048576 := by omega
  have h5 : (2 : Nat) ^ 20 = 1048576 := by decide
  omega
theorem before {ls : List Int} {o : List Nat} (h : IsOrd ls o) {a b : Nat} (ha : a ∈ o) (hb : b ∈ o) (hab : Lx ls a b) : xs ls (upTo o a) + 2 ^ (20 - lnA ls a) ≤ xs ls (upTo o b) := by
  obtain ⟨r, e⟩ := split_at hb
  have ham : a ∈ upTo o b := by
    have h1 : a ∈ upTo o b ++ b :: r := by rw [← e]; exact ha
    rcases List.mem_append.mp h1 with z | z
    · exact z
    · exfalso
      rcases List.mem_cons.mp z with z | z
      · subst z; exact hab.irrefl
      · have h2 := h.pw
        rw [e] at h2
        have h3 := (List.pairwise_cons.mp (List.pairwise_append.mp h2).2.1).1 a z
        exact hab.asymm h3
  obtain ⟨r2, e2⟩ := split_at ham
  have h5 : upTo (upTo o b) a = upTo o a := by
    rw (occs := .pos [2]) [e]
    have : ∀ (t u : List Nat), a ∈ t → upTo (t ++ u) a = upTo t a := fun t u ht => by
      clear e2 ham e h ha hb hab
      unfold upTo
      induction t with
      | nil => simp at ht
      | cons x t ih =>
        by_cases q : x = a
        · subst q; simp
        · have h' : a ∈ t := by
            rcases List.mem_cons.mp ht with z | z
            · exact absurd z.symm q
            · exact z
          simp only [List.cons_append]
          rw [List.takeWhile_cons_of_pos (by simpa using q), List.takeWhile_cons_of_pos (by simpa using q), ih h']
    exact (this _ _ ham).symm
  rw [e2, h5, xs_app]
  have : xs ls (a :: r2) = 2 ^ (20 - lnA ls a) + xs ls r2 := by simp [xs]
  omega
theorem Lx.total {ls : List Int} {k j : Nat} (h : k ≠ j) : Lx ls k j ∨ Lx ls j k := by
  unfold Lx; omega
theorem clash {ls : List Int} {o : List Nat} (hl : Lok ls) (h : IsOrd ls o) (hk : kraft ls ≤ 1048576) {a b : Nat} (ha : a ∈ o) (hb : b ∈ o) (hab : Lx ls a b) (hle : lnA ls a ≤ lnA ls b) : (wd ls (upTo o b) b).take (lnA ls a) ≠ wd ls (upTo o a) a := by
  intro e
  have l1 := ln_le hl a
  have l2 := ln_le hl b
  unfold wd at e
  rw [bits_take hle, Nat.div_div_eq_div_mul, ← Nat.pow_add] at e
  have e1 : 20 - lnA ls b + (lnA ls b - lnA ls a) = 20 - lnA ls a := by omega
  rw [e1] at e
  have p1 := pos_lt hl h hk ha
  have p2 := pos_lt hl h hk hb
  have b1 := before h ha hb hab
  have hp : 0 < 2 ^ (20 - lnA ls a) := Nat.pow_pos (by decide)
  have hp2 : 0 < 2 ^ (20 - lnA ls b) := Nat.pow_pos (by decide)
  have hm : (2 : Nat) ^ 20 = 2 ^ lnA ls a * 2 ^ (20 - lnA ls a) := by rw [← Nat.pow_add]; congr 1; omega
  have q1 : xs ls (upTo o b) / 2 ^ (20 - lnA ls a) < 2 ^ lnA ls a := (Nat.div_lt_iff_lt_mul hp).mpr (by omega)
  have q2 : xs ls (upTo o a) / 2 ^ (20 - lnA ls a) < 2 ^ lnA ls a := (Nat.div_lt_iff_lt_mul hp).mpr (by omega)
  have e2 := bits_inj q1 q2 e
  have q3 : (xs ls (upTo o a) + 2 ^ (20 - lnA ls a)) / 2 ^ (20 - lnA ls a) ≤ xs ls (upTo o b) / 2 ^ (20 - lnA ls a) := Nat.div_le_div_right b1
  rw [Nat.add_div_right _ hp] at q3
  omega
/-- no word is the beginning of another one -/
theorem free {ls : List Int} {o : List Nat} (hl : Lok ls) (h : IsOrd ls o) (hk : kraft ls ≤ 1048576) {a b : Nat} (ha : a ∈ o) (hb : b ∈ o) (hab : a ≠ b) : (wd ls (upTo o b) b).take (lnA ls a) ≠ wd ls (upTo o a) a := by
  rcases Lx.total (ls := ls) hab with z | z
  · exact clash hl h hk ha hb z (by unfold Lx at z; omega)
  · intro e
    have hle : lnA ls b ≤ lnA ls a := by unfold Lx at z; omega
    have h1 : (wd ls (upTo o b) b).length = lnA ls b := bits_len _ _
    have h2 : (wd ls (upTo o a) a).length = lnA ls a := bits_len _ _
    have h3 := congrArg List.length e
    rw [List.length_take, h1, h2] at h3
    have h4 : lnA ls a = lnA ls b := by omega
    have h5 := clash hl h hk hb ha z hle
    apply h5
    rw [← h4, List.take_of_length_le (by rw [h2]; exact Nat.le_refl _), ← e, h4, List.take_of_length_le (by rw [h1]; exact Nat.le_refl _)]
end M01
set_option Elab.async false
set_option linter.all false
set_option maxRecDepth 100000
set_option maxHeartbeats 4000000
set_option exponentiation.threshold 20000
namespace K16
open PySem PySem.Spec PyProof.Rows L2 StX GX KC Evl M08 M09 M10 M01
structure GE (K : PySem.W.Frag) (mg : Str → Option Value) (ae : Addr) : Prop where
  g_EMPTY : mg "EMPTY" = some (.ref ae)
  at_ : ∀ H, SqT K H ae [.int 0, .int 1, .int 1]
abbrev tv (t : T3) : List V := [.int t.low, .int t.width, .int t.whole]
theorem nat_of {x : Int} {n : Nat} (h0 : 0 ≤ x) (h : x < 2 ^ n) : x.natAbs < 2 ^ n := by
  have e : ((x.natAbs : Nat) : Int) = x := Int.natAbs_of_nonneg h0
  have : ((x.natAbs : Nat) : Int) < ((2 ^ n : Nat) : Int) := by
    rw [e]
    push_cast
    exact h
  exact Int.ofNat_lt.mp this
theorem pow_mono {a b : Nat} (h : a ≤ b) : (2 : Int) ^ a ≤ 2 ^ b := by
  have := Nat.pow_le_pow_right (show 0 < 2 by decide) h
  have h2 : ((2 ^ a : Nat) : Int) ≤ ((2 ^ b : Nat) : Int) := Int.ofNat_le.mpr this
  push_cast at h2
  exact h2
theorem Tr.big {k : Nat} {t : T3} (h : Tr k t) (hk : k ≤ 300) : 0 ≤ t.low ∧ 1 ≤ t.width ∧ t.low + t.width ≤ t.whole ∧ t.whole < 2 ^ 4000 := ⟨h.low, h.width, h.whole, Int.lt_of_lt_of_le h.bound (pow_mono (by omega))⟩
section
variable {P : Program} {w : World} {K : PySem.W.Frag} {mg : Str → Option Value} {base : Heap} {Cl : Nat → Addr} {σ : L2.St} {H H' : Hp} {p d R r : Addr} {rs : List Addr} {m : Md} {n : Nat} {F : Addr → Prop} {ta tb te : TE} {D : Ends} {tz : TS}
theorem ep_call {sp : Sp} {E : XK} {ta : TA} {vs : List V} {Rr : V → Hp → Prop} (h : EvA ta σ H vs) (hs : ∀ H1, Ex H H1 → ∀ Q : VK, (∀ v H2, Ex H1 H2 → Rr v H2 → Q v H2) → sp (vs ++ []) H1 Q E) : EvP (tCall sp [] E ta) σ H Rr := fun H1 e Q q =>
  h H1 e _ fun H2 e2 => hs H2 (e.trans e2) Q fun v H3 e3 r => q v H3 (e2.trans e3) r
theorem rv_shlN {i : Int} {k : Nat} (h : CShl i (k : Int)) : RV (fun x y H Q => ∃ (i : Int) (k : Nat), x = .int i ∧ y = .int (k : Int) ∧ CShl i (k : Int) ∧ Q (.int (i * 2 ^ k)) H) (.int i) (.int (k : Int)) H (.int (i * 2 ^ k)) := fun H1 _ _ q => ⟨i, k, rfl, rfl, h, q H1 (Ex.refl H1)⟩
theorem q_unp3 {a : Addr} {x y z : V} {i j l : Nat} (h : Ev te σ H (.ref a)) (hx : SqT K H a [x, y, z]) (k : ∀ H1, Ex H H1 → tz D (((σ.set i (some x)).set j (some y)).set l (some z)) H1) : tSeq (tAsg te (gTup K 3 (gCons (gName i) (gCons (gName j) (gCons (gName l) gNil))))) tz D σ H :=
  h H (Ex.refl H) _ fun H1 e1 => ⟨a, _, rfl, ex_t e1 hx, rfl, _, _, rfl, _, _, rfl, _, _, rfl, rfl, k H1 e1⟩
theorem ep_fresh2 {ta : TE} (hm : MAt Cl H p m F) (hok : Ok n m) (ha : Ev ta σ H (.ref p)) : EvP (tMethD Cl Any "fresh" (spFresh Cl) ta tNil) σ H (fun v H' => ∃ p' F', v = .ref p' ∧ MAt Cl H' p' m.fresh F' ∧ ∀ b, F' b → H b = none) := by
  obtain ⟨dx, fs, hp, hn⟩ := hm.obj
  exact ev_methP (i := m.kind) ha hok.kd hp (hn _ (by decide +kernel) (by decide +kernel) (by decide +kernel) (by decide +kernel) (by decide +kernel)) ea_nil fun H1 e Q q => ⟨p, m, F, n, rfl, rfl, hm.ext e, hok, fun p' H' F' ex hf hn => q _ H' ex ⟨p', F', rfl, hf, fun b hb => fresh_back e (hn b hb)⟩⟩
/-- model.learn(symbol) as a statement -/
theorem q_learn {t : TA} {s : Nat} (hm : MAt Cl H p m F) (hok : Ok n m) (ha : Ev ta σ H (.ref p)) (ht : EvA t σ H [.int (s : Int)]) (hs : s < n) (k : ∀ H2 F', MAt Cl H2 p (m.learn s) F' → Kp F H H2 → (∀ b, F' b → F b ∨ H b = none) → tz D σ H2) : tSeq (tDrop (tMethD Cl Any "learn" (spLearn Cl) ta t)) tz D σ H := by
  obtain ⟨dx, fs, hp, hn⟩ := hm.obj
  refine ha H (Ex.refl H) _ fun H1 e1 => ⟨m.kind, p, dx, fs, hok.kd, rfl, e1 _ _ hp, hn _ (by decide +kernel) (by decide +kernel) (by decide +kernel) (by decide +kernel) (by decide +kernel), ht H1 e1 _ fun H2 e2 => ?_⟩
  have e12 := e1.trans e2
  exact ⟨p, m, F, n, s, rfl, rfl, hm.ext e12, hok, hs, fun H3 F3 hm3 kp fr => k H3 F3 hm3 ((Kp.of_ex e12).trans kp) fun b hb => (fr b hb).imp (fun z => z) fun z => fresh_back e12 z⟩
theorem s_learn {t : TA} {s : Nat} (hm : MAt Cl H p m F) (hok : Ok n m) (ha : Ev ta σ H (.ref p)) (ht : EvA t σ H [.int (s : Int)]) (hs : s < n) (k : ∀ H2 F', MAt Cl H2 p (m.learn s) F' → Kp F H H2 → (∀ b, F' b → F b ∨ H b = none) → D.nx σ H2) : tDrop (tMethD Cl Any "learn" (spLearn Cl) ta t) D σ H := by
  obtain ⟨dx, fs, hp, hn⟩ := hm.obj
  refine ha H (Ex.refl H) _ fun H1 e1 => ⟨m.kind, p, dx, fs, hok.kd, rfl, e1 _ _ hp, hn _ (by decide +kernel) (by decide +kernel) (by decide +kernel) (by decide +kernel) (by decide +kernel), ht H1 e1 _ fun H2 e2 => ?_⟩
  have e12 := e1.trans e2
  exact ⟨p, m, F, n, s, rfl, rfl, hm.ext e12, hok, hs, fun H3 F3 hm3 kp fr => k H3 F3 hm3 ((Kp.of_ex e12).trans kp) fun b hb => (fr b hb).imp (fun z => z) fun z => fresh_back e12 z⟩
/-! field_bits -/
theorem el_lcDown {ta : TA} {te : TE} {j : Nat} {vs : List Nat} {a b : Int} {n : Nat} (v : Nat → V) (h : EvA ta σ H [.int a, .int b, .int (-1)]) (hn : (a - b).toNat = n) (ha : -100000 ≤ a ∧ a ≤ 100000) (hb : -100000 ≤ b ∧ b ≤ 100000) (hn2 : n ≤ 40000)
    (hw : ∀ x, wipe ((wipe σ vs).set j (some x)) vs = wipe σ vs) (he : ∀ (i : Nat) H1, Ex H H1 → i < n → Ev te ((wipe σ vs).set j (some (.int (a + (i : Nat) * (-1))))) H1 (v i)) : EvL (tLc (iRng3 ta) (gName j) tYes te vs) σ H ((List.range n).map v) := fun H1 e Q q =>
  h H1 e _ fun H2 e2 => ⟨a, b, -1, n, rfl, by rw [← hn]; exact RgC.neg (by omega) (by omega) (by omega) (by omega), fun Dl hD =>
    ⟨fun i m H' => m + i = n ∧ H2 Dl = none ∧ Ex H2 H' ∧ H' Dl = some (.lst ((List.range i).map v)), ⟨n, by omega, hD, Ex.new hD, upd_same⟩, fun i m H' hW => by
      obtain ⟨hm, hD2, e3, hl⟩ := hW
      by_cases hi : i < n
      · right
        refine ⟨hi, fun H' => (m - 1) + (i + 1) = n ∧ H2 Dl = none ∧ Ex H2 H' ∧ H' Dl = some (.lst ((List.range (i + 1)).map v)), fun H' q => ⟨m - 1, by omega, q⟩, ?_⟩
        rintro x H5 ⟨rfl, rfl⟩
        refine ⟨hw _, tt_yes ?_⟩
        refine he i _ ((e.trans e2).trans e3) hi _ (Ex.refl _) _ fun H6 e6 => ?_
        refine ⟨_, e6 Dl _ hl, sz_lt (by rw [List.length_map, List.length_range]; omega), by omega, hD2, Ex.mut (e3.trans e6) hD2, ?_⟩
        rw [upd_same, List.range_succ, List.map_append]
        rfl
      · left
        have hin : i = n := by omega
        subst hin
        exact ⟨Nat.le_refl _, q Dl H' (fresh_back e2 hD2) (e2.trans e3) hl⟩⟩⟩
def spBits : Sp := fun vs H Q _ => ∃ (x l : Nat), vs = [.int (x : Int), .int (l : Int)] ∧ l ≤ 9000 ∧ RetL ((bitsL x l).map V.int) H Q
theorem ok_field_bits {f : Addr} {fd : FuncData} {k : Nat} (F : Fun K "field_bits" "field_bits" s_field_bits f fd) (B : Bs mg) : FnOk P w K mg base CX0 (k + 1) f fd ["number", "width"] spBits := by
  refine F.ok sc_field_bits (fun vs H Q E h => ?_) (fun cdv A outer s H vs Q E hr h => ?_)
  · obtain ⟨x, l, rfl, _⟩ := h
    rfl
  · obtain ⟨x, l, rfl, hl, q⟩ := h
    refine ⟨_, (pss_one (ps_ret (pe_lc rfl sc_field_bits.nd (pi_range3 (by rfl) B.range (pa_cons (pe_op op_sub (pv 1) pe_int) (pa_cons (pe_un un_neg pe_int) (pa_cons (pe_un un_neg pe_int) pa_nil)))) (blkOk_by (own := [("at", 2)]) (N := ["number", "width", "at"]) (sc := defScope s_field_bits) (by decide +kernel)) (fun _ _ _ _ _ => (pg_name (i := 2) sc_field_bits.nd rfl (Or.inl rfl))) (fun _ _ _ _ _ => pts_nil) (fun _ _ _ _ _ => (pe_op op_and (pe_op op_shr (pv 0) (pv 2)) pe_int))))), ?_⟩
    refine s_retL ?_ q
    have e : (bitsL x l).map V.int = (List.range l).map fun j => V.int ((x / 2 ^ (l - 1 - j) % 2 : Nat) : Int) := by
      unfold bitsL
      rw [List.map_map]
      rfl
    rw [e]
    refine el_lcDown (a := (l : Int) - 1) (b := -1) _ (ea3 (ev_sub (ev_var rfl) ev_c) (ev_un (x := .int 1) ev_c ru_neg) (ev_un (x := .int 1) ev_c ru_neg)) (by omega) (by omega) (by omega) (by omega) (fun x => rfl) fun i H1 e1 hi => ?_
    have ei : (l : Int) - 1 + (i : Nat) * (-1) = ((l - 1 - i : Nat) : Int) := by omega
    rw [ei]
    refine ev_is (ev_op (ev_op (ev_var (v := .int (x : Int)) rfl) (ev_var (v := .int ((l - 1 - i : Nat) : Int)) rfl) (rv_shr (by omega))) ev_c rv_I0) ?_
    rw [bitAnd_m1, Int.toNat_natCast]
    congr 1
/-! narrowed, interval -/
def spNarrowed (K : PySem.W.Frag) (Cl : Nat → Addr) : Sp := fun vs H Q _ => ∃ (a p : Addr) (m : Md) (F : Addr → Prop) (n k s : Nat) (t : T3), vs = [.ref a, .ref p, .int (s : Int)] ∧ SqT K H a (tv t) ∧ MAt Cl H p m F ∧ Good n m ∧ s < n ∧
  ∀ q H', H q = none → Ex H H' → H' q = some (.tup (tv (stp t m.row s))) → Q (.ref q) H'
theorem ok_narrowed {f : Addr} {fd : FuncData} {k : Nat} (Fn : Fun K "narrowed" "narrowed" s_narrowed f fd) (B : Bs mg) (D_total : MCal P w K mg base Cl Any "total" 2 ["self"] (spTotal Cl)) (D_low : MCal P w K mg base Cl Any "low" 3 ["self", "symbol"] (spLow Cl)) (D_weight : MCal P w K mg base Cl Any "weight" 2 ["self", "symbol"] (spWeight Cl)) :
    FnOk P w K mg base CX0 (k + 4) f fd ["span", "model", "symbol"] (spNarrowed K Cl) := by
  refine Fn.ok sc_narrowed (fun vs H Q E h => ?_) (fun cdv A outer s H vs Q E hr h => ?_)
  · obtain ⟨a, p, m, F, n, k, s_, t, rfl, _⟩ := h
    rfl
  · obtain ⟨a, p, m, F, n, k, s_, t, rfl, hs, hm, hg, hsn, q⟩ := h
    refine ⟨_, (pss_cons (ps_asg (pv 0) (pg_tup rfl (pgs_cons (pg_name (i := 3) sc_narrowed.nd rfl (Or.inl rfl)) (pgs_cons (pg_name (i := 4) sc_narrowed.nd rfl (Or.inl rfl)) (pgs_cons (pg_name (i := 5) sc_narrowed.nd rfl (Or.inl rfl)) pgs_nil)))))
      (pss_cons (ps_set (i := 6) sc_narrowed.nd rfl (Or.inl rfl) (pe_methD0 (pv 1) D_total (hr.mono (by omega))))
      (pss_one (ps_ret (pe_tup (pa_cons (pe_op op_add (pe_op op_mul (pv 3) (pv 6)) (pe_op op_mul (pv 4) (pe_methD (pv 1) D_low (hr.mono (by omega)) (pa_cons (pv 2) pa_nil)))) (pa_cons (pe_op op_mul (pv 4) (pe_methD (pv 1) D_weight (hr.mono (by omega)) (pa_cons (pv 2) pa_nil))) (pa_cons (pe_op op_mul (pv 5) (pv 6)) pa_nil)))))))), ?_⟩
    have hok := hg.ok
    have hro := hok.row
    have hb := hg.bd.row hok
    refine q_unp3 (ev_var rfl) hs fun H1 e1 => ?_
    have hm1 := hm.ext e1
    refine q_asg (ev_m hm1 hok (ev_var rfl) ea_nil (sp_total hm1 hok)) fun H2 e2 => ?_
    have hm2 := hm1.ext e2
    have tk0 := take_nonneg hro.2.1 s_
    have tk1 := sum_take_succ m.row s_ (by rw [hro.1]; exact hsn)
    have tk2 := getD_nonneg hro.2.1 s_
    have tk3 : (m.row.take (s_ + 1)).sum ≤ m.row.sum := by
      have e : m.row.sum = (m.row.take (s_ + 1)).sum + (m.row.drop (s_ + 1)).sum := by rw [← List.sum_append, List.take_append_drop]
      have := sum_nonneg (m.row.drop (s_ + 1)) fun x hx => hro.2.1 x (List.mem_of_mem_drop hx)
      omega
    have hpos := hro.2.2
    refine s_retU (eu_tup (ea3 (ev_op (ev_op (ev_var (v := .int t.low) rfl) (ev_var (v := .int m.row.sum) rfl) (rv_I (.inr ⟨by omega, by omega⟩))) (ev_op (ev_var (v := .int t.width) rfl) (ev_m hm2 hok (ev_var rfl) (ea1 (ev_var rfl)) (sp_low hm2 hok)) (rv_I (.inr ⟨by omega, by omega⟩))) rv_I0)
      (ev_op (ev_var (v := .int t.width) rfl) (ev_m hm2 hok (ev_var rfl) (ea1 (ev_var rfl)) (sp_weight hm2 hok hsn)) (rv_I (.inr ⟨by omega, by omega⟩)))
      (ev_op (ev_var (v := .int t.whole) rfl) (ev_var (v := .int m.row.sum) rfl) (rv_I (.inr ⟨by omega, by omega⟩)))) (by show 3 ≤ 100000; decide)) fun pq H3 np e3 h3 => ?_
    exact q pq H3 (fresh_back (e1.trans e2) np) ((e1.trans e2).trans e3) h3
def spInterval (K : PySem.W.Frag) (Cl : Nat → Addr) : Sp := fun vs H Q _ => ∃ (p l : Addr) (m : Md) (F : Addr → Prop) (n : Nat) (msg : List Nat), vs = [.ref p, .ref l] ∧ MAt Cl H p m F ∧ Ok n m ∧ Good n m.fresh ∧ SqL K H l (msg.map fun (s : Nat) => V.int (s : Int)) ∧ (∀ s ∈ msg, s < n) ∧
  ∀ a H', Ex H H' → SqT K H' a (tv (itv m.fresh msg t0)) → Q (.ref a) H'
theorem take_snoc {α : Type} {xs : List α} {i : Nat} {x : α} (h : xs[i]? = some x) : xs.take (i + 1) = xs.take i ++ [x] := by
  obtain ⟨h1, e⟩ := List.getElem?_eq_some_iff.mp h
  rw [← e, List.take_append_getElem h1]
theorem ok_interval {f ae : Addr} {fd : FuncData} {k : Nat} (Fn : Fun K "interval" "interval" s_interval f fd) (B : Bs mg) (T : GE K mg ae) (C_narrowed : Cal P w K mg base "narrowed" 4 ["span", "model", "symbol"] (spNarrowed K Cl)) (D_fresh : MCal P w K mg base Cl Any "fresh" 5 ["self"] (spFresh Cl)) (D_learn : MCal P w K mg base Cl Any "learn" 3 ["self", "symbol"] (spLearn Cl)) :
    FnOk P w K mg base CX0 (k + 6) f fd ["model", "message"] (spInterval K Cl) := by
  refine Fn.ok sc_interval (fun vs H Q E h => ?_) (fun cdv A outer s H vs Q E hr h => ?_)
  · obtain ⟨p, l, m, F, n, msg, rfl, _⟩ := h
    rfl
  · obtain ⟨p, l, m, F, n, msg, rfl, hm, hok, hg, hs, hmn, q⟩ := h
    refine ⟨_, (pss_cons (ps_set (i := 2) sc_interval.nd rfl (Or.inl rfl) (pe_methD0 (pv 0) D_fresh (hr.mono (by omega))))
      (pss_cons (ps_set (i := 3) sc_interval.nd rfl (Or.inl rfl) (pe_glob (v := .ref ae) (by rfl) T.g_EMPTY rfl))
      (pss_cons (ps_for PassesOwn.never rfl (pi_list (pv 1)) (pg_name (i := 4) sc_interval.nd rfl (Or.inl rfl)) (pss_cons (ps_set (i := 3) sc_interval.nd rfl (Or.inl rfl) (pe_callC C_narrowed (hr.mono (by omega)) (by rfl) (pa_cons (pv 3) (pa_cons (pv 2) (pa_cons (pv 4) pa_nil)))))
      (pss_one (ps_expr (pe_methD (pv 2) D_learn (hr.mono (by omega)) (pa_cons (pv 4) pa_nil))))))
      (pss_one (ps_ret (pv 3)))))), ?_⟩
    refine q_asgP (ep_fresh2 hm hok (ev_var rfl)) fun v H1 e1 ⟨p', F', ev, hm1, hf1⟩ => ?_
    subst ev
    refine q_asg (v := .ref ae) ev_c fun H2 e2 => ?_
    refine q_forLn (ev_var rfl) (ex_l (e1.trans e2) hs) (fun i σ' H' => ∃ F2 a x, σ' = [some (.ref p), some (.ref l), some (.ref p'), some (.ref a), x] ∧ Ex H H' ∧ MAt Cl H' p' (mds m.fresh (msg.take i)) F2 ∧ (∀ b, F2 b → H b = none) ∧ SqT K H' a (tv (itv m.fresh (msg.take i) t0)))
      (fun H3 e3 => ⟨F', ae, none, rfl, (e1.trans e2).trans e3, hm1.ext (e2.trans e3), hf1, T.at_ H3⟩) (fun i σ' H' _ ⟨_, _, _, _, e, _⟩ => ex_l e hs) ?_ ?_
    · rintro i v σ' H' hv ⟨F2, a, x, rfl, ex, hm2, hf2, ha⟩
      have hil : i < msg.length := by
        have := (List.getElem?_eq_some_iff.mp hv).1
        rwa [List.length_map] at this
      obtain ⟨sy, hsy⟩ : ∃ sy, msg[i]? = some sy := ⟨_, List.getElem?_eq_getElem hil⟩
      rw [List.getElem?_map, hsy] at hv
      cases hv
      have hsn := hmn sy (List.mem_of_getElem? hsy)
      have hgi := mds_good (msg.take i) m.fresh hg fun b hb => hmn b (List.mem_of_mem_take hb)
      refine q_asgP (R := fun v H'' => ∃ pq, v = .ref pq ∧ H' pq = none ∧ H'' pq = some (.tup (tv (stp (itv m.fresh (msg.take i) t0) (mds m.fresh (msg.take i)).row sy)))) (ep_call (vs := [.ref a, .ref p', .int (sy : Int)]) (ea3 (ev_var rfl) (ev_var rfl) (ev_var rfl)) fun H3 e3 Q q2 => ⟨a, p', _, F2, n, 0, sy, _, rfl, ex_t e3 ha, hm2.ext e3, hgi, hsn, fun pq H4 np e4 h4 => q2 _ H4 e4 ⟨pq, rfl, fresh_back e3 np, h4⟩⟩) fun v H3 e3 ⟨pq, ev, np, h3⟩ => ?_
      subst ev
      have hm3 := hm2.ext e3
      refine s_learn hm3 hgi.ok (ev_var rfl) (ea1 (ev_var rfl)) hsn fun H4 F4 hm4 kp4 fr4 => ?_
      have hF2 : ∀ b, F2 b → H' b ≠ none := hm2.foot
      refine ⟨F4, pq, _, rfl, (fun b o hb => kp4 b o (e3 _ _ (ex _ _ hb)) fun z => (by rw [hf2 b z] at hb; cases hb)), ?_, fun b hb => ?_, ?_⟩
      · rw [take_snoc hsy, mds_snoc]
        exact hm4
      · rcases fr4 b hb with z | z
        · exact hf2 b z
        · exact fresh_back (ex.trans e3) z
      · rw [take_snoc hsy, itv_snoc]
        exact st_of (kp4 _ _ h3 fun z => hF2 pq z np)
    · rintro σ' H' ⟨F2, a, x, rfl, ex, hm2, hf2, ha⟩
      rw [List.length_map, List.take_length] at ha
      exact s_ret (ev_var rfl) fun H3 e3 => q a H3 (ex.trans e3) (ex_t e3 ha)
end
end K16
set_option Elab.async false
set_option linter.all false
set_option maxRecDepth 100000
set_option maxHeartbeats 4000000
set_option exponentiation.threshold 20000
namespace K16
open PySem PySem.Spec PyProof.Rows L2 StX GX KC Evl M08 M09 M10 M01
theorem log_two {w W : Nat} (hw : 1 ≤ w) (h : w < W) : w.log2 ≤ W.log2 ∧ (∀ j, j < W.log2 - w.log2 → w * 2 ^ j < W) ∧ W ≤ w * 2 ^ (W.log2 - w.log2 + 1) := by
  have a1 := Nat.log2_self_le (show w ≠ 0 by omega)
  have a2 := @Nat.lt_log2_self w
  have b1 := Nat.log2_self_le (show W ≠ 0 by omega)
  have b2 := @Nat.lt_log2_self W
  have hle : w.log2 ≤ W.log2 := by
    by_cases z : w.log2 ≤ W.log2
    · exact z
    · have : 2 ^ (W.log2 + 1) ≤ 2 ^ w.log2 := Nat.pow_le_pow_right (by decide) (by omega)
      omega
  refine ⟨hle, fun j hj => ?_, ?_⟩
  · have h1 : w * 2 ^ j < 2 ^ (w.log2 + 1) * 2 ^ j := Nat.mul_lt_mul_of_pos_right a2 (Nat.pow_pos (by decide))
    rw [← Nat.pow_add] at h1
    have h2 : 2 ^ (w.log2 + 1 + j) ≤ 2 ^ W.log2 := Nat.pow_le_pow_right (by decide) (by omega)
    omega
  · have h1 : 2 ^ w.log2 * 2 ^ (W.log2 - w.log2 + 1) ≤ w * 2 ^ (W.log2 - w.log2 + 1) := Nat.mul_le_mul_right _ a1
    rw [← Nat.pow_add, show w.log2 + (W.log2 - w.log2 + 1) = W.log2 + 1 by omega] at h1
    omega
theorem bits_pos {x : Int} (h : 1 ≤ x) : Builtin.Int.intBits x = x.natAbs.log2 + 1 := by
  unfold Builtin.Int.intBits
  rw [if_neg (show ¬ (x == 0) = true by simpa using (show x ≠ 0 by omega))]
theorem least_of {k : Nat} {t : T3} (h : Tr k t) (hlt : t.width < t.whole) : ∃ e : Nat, (Builtin.Int.intBits t.whole : Int) - (Builtin.Int.intBits t.width : Int) = (e : Int) ∧ e ≤ 13 * k + 1 ∧ (t.whole ≤ t.width * 2 ^ e → Lst t e) ∧ (t.width * 2 ^ e < t.whole → Lst t (e + 1)) := by
  have hw := h.width
  obtain ⟨w, ew⟩ : ∃ w : Nat, t.width = (w : Int) := ⟨t.width.toNat, by omega⟩
  obtain ⟨W, eW⟩ : ∃ W : Nat, t.whole = (W : Int) := ⟨t.whole.toNat, by omega⟩
  obtain ⟨g1, g2, g3⟩ := log_two (w := w) (W := W) (by omega) (by omega)
  have hW : W < 2 ^ (13 * k + 1) := by
    have := h.bound
    rw [eW] at this
    have h2 : (W : Int) < ((2 ^ (13 * k + 1) : Nat) : Int) := by push_cast; exact this
    exact Int.ofNat_lt.mp h2
  have hl : W.log2 < 13 * k + 1 := (Nat.log2_lt (by omega)).mpr hW
  have cast : ∀ j : Nat, ((w * 2 ^ j : Nat) : Int) = (w : Int) * 2 ^ j := fun j => by push_cast; rfl
  refine ⟨W.log2 - w.log2, ?_, by omega, fun z => ⟨z, fun j hj => ?_⟩, fun z => ⟨?_, fun j hj => ?_⟩⟩
  · rw [bits_pos (by omega), bits_pos hw, ew, eW, Int.natAbs_natCast, Int.natAbs_natCast]
    omega
  · rw [ew, eW, ← cast]
    exact Int.ofNat_lt.mpr (g2 j hj)
  · rw [ew, eW, ← cast]
    exact Int.ofNat_le.mpr g3
  · by_cases y : j = W.log2 - w.log2
    · rw [y]
      exact z
    · rw [ew, eW, ← cast]
      exact Int.ofNat_lt.mpr (g2 j (by omega))
section
variable {P : Program} {w : World} {K : PySem.W.Frag} {mg : Str → Option Value} {base : Heap} {Cl : Nat → Addr} {σ : L2.St} {H H' : Hp} {p d R r : Addr} {rs : List Addr} {m : Md} {n : Nat} {F : Addr → Prop} {ta tb te : TE} {D : Ends} {tz : TS}
theorem ev_bits {i : Int} (h : Ev te σ H (.int i)) : Ev (tBits te) σ H (.int (Builtin.Int.intBits i : Nat)) := fun H1 e Q q => h H1 e _ fun H2 e2 => ⟨i, rfl, q H2 e2⟩
def spLeast : Sp := fun vs H Q _ => ∃ (t : T3) (k : Nat), vs = [.int t.width, .int t.whole] ∧ Tr k t ∧ k ≤ 300 ∧ ∀ (e : Nat) H', Lst t e → e ≤ 4000 → Ex H H' → Q (.int (e : Int)) H'
theorem ok_least_exponent {f : Addr} {fd : FuncData} {k : Nat} (Fn : Fun K "least_exponent" "least_exponent" s_least_exponent f fd) (B : Bs mg) : FnOk P w K mg base CX0 (k + 1) f fd ["width", "whole"] spLeast := by
  refine Fn.ok sc_least_exponent (fun vs H Q E h => ?_) (fun cdv A outer s H vs Q E hr h => ?_)
  · obtain ⟨t, k, rfl, _⟩ := h
    rfl
  · obtain ⟨t, k, rfl, ht, hk, q⟩ := h
    refine ⟨_, (pss_cons (ps_if (pt_cmpR op_ge (pv 0) (pv 1) (nomark _)) (pss_one (ps_ret pe_int)) pss_nil)
      (pss_cons (ps_set (i := 2) sc_least_exponent.nd rfl (Or.inl rfl) (pe_op op_sub (pe_bits (pv 1)) (pe_bits (pv 0))))
      (pss_cons (ps_if (pt_cmpR op_ge (pe_op op_shlN (pv 0) (pv 2)) (pv 1) (nomark _)) (pss_one (ps_ret (pv 2))) pss_nil)
      (pss_one (ps_ret (pe_op op_add (pv 2) pe_int)))))), ?_⟩
    refine q_when (et_test (ev_op (ev_var (v := .int t.width) rfl) (ev_var (v := .int t.whole) rfl) rv_I0)) (fun hb H1 e1 => ?_) (fun hb H1 e1 => ?_)
    · have hge : t.width ≥ t.whole := of_decide_eq_true hb
      exact s_ret ev_c fun H2 e2 => q 0 H2 ⟨by rw [Int.pow_zero, Int.mul_one]; exact hge, fun j hj => absurd hj (Nat.not_lt_zero j)⟩ (by decide) (e1.trans e2)
    · have hlt : t.width < t.whole := by have : ¬ t.width ≥ t.whole := of_decide_eq_false hb; omega
      obtain ⟨e, ee, he, h1, h2⟩ := least_of ht hlt
      obtain ⟨b1, b2, b3, b4⟩ := Tr.big ht hk
      refine q_asg (v := .int (e : Int)) (ev_is (ev_op (ev_bits (ev_var (v := .int t.whole) rfl)) (ev_bits (ev_var (v := .int t.width) rfl)) rv_I0) (by rw [ee])) fun H2 e2 => ?_
      refine q_when (et_test (ev_op (ev_op (ev_var (v := .int t.width) rfl) (ev_var (v := .int (e : Int)) rfl) (rv_shlN (shl_ok (n := 4000) (nat_of (by omega) (by omega)) (by omega)))) (ev_var (v := .int t.whole) rfl) rv_I0)) (fun hb H3 e3 => ?_) (fun hb H3 e3 => ?_)
      · have hge : t.width * 2 ^ e ≥ t.whole := of_decide_eq_true hb
        exact s_ret (ev_var rfl) fun H4 e4 => q e H4 (h1 hge) (by omega) ((e1.trans e2).trans (e3.trans e4))
      · have hlt2 : ¬ t.width * 2 ^ e ≥ t.whole := of_decide_eq_false hb
        exact s_ret (v := .int ((e + 1 : Nat) : Int)) (ev_is (ev_add (ev_var rfl) ev_c) (by push_cast; rfl)) fun H4 e4 => q (e + 1) H4 (h2 (by omega)) (by omega) ((e1.trans e2).trans (e3.trans e4))
def spHolds (K : PySem.W.Frag) : Sp := fun vs H Q _ => ∃ (a : Addr) (t : T3) (k c : Nat) (v : Int), vs = [.ref a, .int v, .int (c : Int)] ∧ SqT K H a (tv t) ∧ Tr k t ∧ k ≤ 300 ∧ c ≤ 8000 ∧ -1 ≤ v ∧ v < 2 ^ 8000 ∧ RetV (.bl (decide (ins t v c))) H Q
theorem ins_and (t : T3) (v : Int) (c : Nat) : (decide (t.low * 2 ^ c ≤ v * t.whole) && decide ((v + 1) * t.whole ≤ (t.low + t.width) * 2 ^ c)) = decide (ins t v c) := by
  rw [Bool.eq_iff_iff, Bool.and_eq_true, decide_eq_true_iff, decide_eq_true_iff, decide_eq_true_iff]
  exact Iff.rfl
theorem nat_m1 {v : Int} {n : Nat} (h0 : -1 ≤ v) (h : v < 2 ^ n) (hn : 0 < n) : v.natAbs < 2 ^ n := by
  by_cases z : 0 ≤ v
  · exact nat_of z h
  · have : v = -1 := by omega
    rw [this]
    show 1 < 2 ^ n
    exact Nat.one_lt_two_pow (by omega)
theorem ok_holds {f : Addr} {fd : FuncData} {k : Nat} (Fn : Fun K "holds" "holds" s_holds f fd) (B : Bs mg) : FnOk P w K mg base CX0 (k + 1) f fd ["span", "number", "count"] (spHolds K) := by
  refine Fn.ok sc_holds (fun vs H Q E h => ?_) (fun cdv A outer s H vs Q E hr h => ?_)
  · obtain ⟨a, t, k, c, v, rfl, _⟩ := h
    rfl
  · obtain ⟨a, t, k, c, v, rfl, hs, ht, hk, hc, hv0, hv, q⟩ := h
    refine ⟨_, (pss_cons (ps_asg (pv 0) (pg_tup rfl (pgs_cons (pg_name (i := 3) sc_holds.nd rfl (Or.inl rfl)) (pgs_cons (pg_name (i := 4) sc_holds.nd rfl (Or.inl rfl)) (pgs_cons (pg_name (i := 5) sc_holds.nd rfl (Or.inl rfl)) pgs_nil)))))
      (pss_one (ps_ret (pe_and (pe_cmpR op_le (pe_op op_shlN (pv 3) (pv 2)) (pe_op op_mulX (pv 1) (pv 5)) (nomark _)) (pe_one (pe_cmpR op_le (pe_op op_mulX (pe_op op_add (pv 1) pe_int) (pv 5)) (pe_op op_shlN (pe_op op_add (pv 3) (pv 4)) (pv 2)) (nomark _))))))), ?_⟩
    obtain ⟨b1, b2, b3, b4⟩ := Tr.big ht hk
    refine q_unp3 (ev_var rfl) hs fun H1 e1 => ?_
    have w1 : t.whole.natAbs < 2 ^ 4000 := nat_of (by omega) b4
    have p1 : (2 : Int) ^ 8001 = 2 ^ 8000 * 2 := by rw [Int.pow_succ]
    refine s_ret (ev_is (ev_andV (ev_op (ev_op (ev_var (v := .int t.low) rfl) (ev_var (v := .int (c : Int)) rfl) (rv_shlN (shl_ok (n := 4000) (nat_of b1 (by omega)) (by omega)))) (ev_op (ev_var (v := .int v) rfl) (ev_var (v := .int t.whole) rfl) (rv_I (mulx_ok (a := 8000) (b := 4000) (nat_m1 hv0 hv (by decide)) w1 (by decide)))) rv_I0)
      (fun _ => ev_op (ev_op (ev_op (ev_var (v := .int v) rfl) ev_c rv_I0) (ev_var (v := .int t.whole) rfl) (rv_I (mulx_ok (a := 8001) (b := 4000) (nat_of (by omega) (by omega)) w1 (by decide)))) (ev_op (ev_op (ev_var (v := .int t.low) rfl) (ev_var (v := .int t.width) rfl) rv_I0) (ev_var (v := .int (c : Int)) rfl) (rv_shlN (shl_ok (n := 4000) (nat_of (by omega) (by omega)) (by omega)))) rv_I0))
      (congrArg V.bl (ins_and t v c))) fun H2 e2 => q H2 (e1.trans e2)
def spFirst (K : PySem.W.Frag) : Sp := fun vs H Q _ => ∃ (a : Addr) (t : T3) (k c : Nat), vs = [.ref a, .int (c : Int)] ∧ SqT K H a (tv t) ∧ Tr k t ∧ k ≤ 300 ∧ c ≤ 8000 ∧ RetV (.int (firstN t c)) H Q
theorem ok_first_number {f : Addr} {fd : FuncData} {k : Nat} (Fn : Fun K "first_number" "first_number" s_first_number f fd) (B : Bs mg) : FnOk P w K mg base CX0 (k + 1) f fd ["span", "count"] (spFirst K) := by
  refine Fn.ok sc_first_number (fun vs H Q E h => ?_) (fun cdv A outer s H vs Q E hr h => ?_)
  · obtain ⟨a, t, k, c, rfl, _⟩ := h
    rfl
  · obtain ⟨a, t, k, c, rfl, hs, ht, hk, hc, q⟩ := h
    refine ⟨_, (pss_cons (ps_asg (pv 0) (pg_tup rfl (pgs_cons (pg_name (i := 2) sc_first_number.nd rfl (Or.inl rfl)) (pgs_cons (pg_name (i := 3) sc_first_number.nd rfl (Or.inl rfl)) (pgs_cons (pg_name (i := 4) sc_first_number.nd rfl (Or.inl rfl)) pgs_nil)))))
      (pss_one (ps_ret (pe_op op_fdivW (pe_op op_sub (pe_op op_add (pe_op op_shlN (pv 2) (pv 1)) (pv 4)) pe_int) (pv 4))))), ?_⟩
    obtain ⟨b1, b2, b3, b4⟩ := Tr.big ht hk
    refine q_unp3 (ev_var rfl) hs fun H1 e1 => ?_
    exact s_ret (ev_op (ev_op (ev_op (ev_op (ev_var (v := .int t.low) rfl) (ev_var (v := .int (c : Int)) rfl) (rv_shlN (shl_ok (n := 4000) (nat_of b1 (by omega)) (by omega)))) (ev_var (v := .int t.whole) rfl) rv_I0) ev_c rv_I0) (ev_var (v := .int t.whole) rfl) (rv_I (wide_div (b := 4000) (by omega) (nat_of (by omega) b4) (by decide) (by decide)))) fun H2 e2 => q H2 (e1.trans e2)
theorem first_lt {k : Nat} {t : T3} (h : Tr k t) (c : Nat) : firstN t c ≤ 2 ^ c := by
  refine first_le h ?_
  have h3 : t.low * 2 ^ c ≤ t.whole * 2 ^ c := Int.mul_le_mul_of_nonneg_right (by have := h.whole; have := h.width; omega) (Int.pow_nonneg (by decide))
  rw [Int.mul_comm (2 ^ c)]
  exact h3
def spEncode (K : PySem.W.Frag) (Cl : Nat → Addr) : Sp := fun vs H Q _ => ∃ (p l : Addr) (m : Md) (F : Addr → Prop) (n : Nat) (msg : List Nat), vs = [.ref p, .ref l] ∧ MAt Cl H p m F ∧ Ok n m ∧ Good n m.fresh ∧ SqL K H l (msg.map fun (s : Nat) => V.int (s : Int)) ∧ msg.length ≤ 300 ∧ Msg n m.fresh msg ∧
  ∀ e, Lst (itv m.fresh msg t0) e → e ≤ 4000 → RetL ((bitsL (firstN (itv m.fresh msg t0) (codeC (itv m.fresh msg t0) e)).toNat (codeC (itv m.fresh msg t0) e)).map V.int) H Q
theorem ok_encode {f : Addr} {fd : FuncData} {k : Nat} (Fn : Fun K "encode_message" "encode_message" s_encode_message f fd) (B : Bs mg) (C_interval : Cal P w K mg base "interval" 6 ["model", "message"] (spInterval K Cl)) (C_least_exponent : Cal P w K mg base "least_exponent" 1 ["width", "whole"] spLeast)
    (C_holds : Cal P w K mg base "holds" 1 ["span", "number", "count"] (spHolds K)) (C_first_number : Cal P w K mg base "first_number" 1 ["span", "count"] (spFirst K)) (C_field_bits : Cal P w K mg base "field_bits" 1 ["number", "width"] spBits) :
    FnOk P w K mg base CX0 (k + 7) f fd ["model", "message"] (spEncode K Cl) := by
  refine Fn.ok sc_encode_message (fun vs H Q E h => ?_) (fun cdv A outer s H vs Q E hr h => ?_)
  · obtain ⟨p, l, m, F, n, msg, rfl, _⟩ := h
    rfl
  · obtain ⟨p, l, m, F, n, msg, rfl, hm, hok, hg, hs, hl, hmsg, q⟩ := h
    refine ⟨_, (pss_cons (ps_set (i := 2) sc_encode_message.nd rfl (Or.inl rfl) (pe_callC C_interval (hr.mono (by omega)) (by rfl) (pa_cons (pv 0) (pa_cons (pv 1) pa_nil))))
      (pss_cons (ps_set (i := 3) sc_encode_message.nd rfl (Or.inl rfl) (pe_callC C_least_exponent (hr.mono (by omega)) (by rfl) (pa_cons (pe_ix ix_tup (pv 2) pe_int (fun _ _ => rfl)) (pa_cons (pe_ix ix_tup (pv 2) pe_int (fun _ _ => rfl)) pa_nil))))
      (pss_cut (ps_if (pt_not (pt_val (pe_callC C_holds (hr.mono (by omega)) (by rfl) (pa_cons (pv 2) (pa_cons (pe_callC C_first_number (hr.mono (by omega)) (by rfl) (pa_cons (pv 2) (pa_cons (pv 3) pa_nil))) (pa_cons (pv 3) pa_nil)))))) (pss_one (ps_aug (i := 3) sc_encode_message.nd rfl (Or.inl rfl) pe_int ip_add)) pss_nil)
      (pss_one (ps_ret (pe_callC C_field_bits (hr.mono (by omega)) (by rfl) (pa_cons (pe_callC C_first_number (hr.mono (by omega)) (by rfl) (pa_cons (pv 2) (pa_cons (pv 3) pa_nil))) (pa_cons (pv 3) pa_nil)))))))), ?_⟩
    have ht := itv_tr msg m.fresh t0 0 hg hmsg tr0
    rw [Nat.zero_add] at ht
    refine q_asgP (R := fun v H' => ∃ a, v = .ref a ∧ SqT K H' a (tv (itv m.fresh msg t0))) (ep_call (vs := [.ref p, .ref l]) (ea2 (ev_var rfl) (ev_var rfl)) fun H1 e1 Q q => ⟨p, l, m, F, n, msg, rfl, hm.ext e1, hok, hg, ex_l e1 hs, fun s hs => (hmsg s hs).1, fun a H2 e2 ha => q _ H2 e2 ⟨a, rfl, ha⟩⟩) fun v H1 e1 ⟨a, ev, ha⟩ => ?_
    subst ev
    generalize itv m.fresh msg t0 = t at ht ha q
    refine q_asgP (R := fun v H' => ∃ e : Nat, v = .int (e : Int) ∧ Lst t e ∧ e ≤ 4000) (ep_call (vs := [.int t.width, .int t.whole]) (ea2 (ev_op (ev_var (v := .ref a) rfl) ev_c (rv_ixT ha rfl)) (ev_op (ev_var (v := .ref a) rfl) ev_c (rv_ixT ha rfl))) fun H2 e2 Q q => ⟨t, _, rfl, ht, hl, fun e H3 he h4 e3 => q _ H3 e3 ⟨e, rfl, he, h4⟩⟩) fun v H2 e2 ⟨e, ev, he, h400⟩ => ?_
    subst ev
    have ha2 := ex_t e2 ha
    refine q_cut (M := fun σ' H' => σ' = [some (.ref p), some (.ref l), some (.ref a), some (.int (codeC t e : Int))] ∧ Ex H2 H') ?_ ?_
    · refine s_when (b := !decide (ins t (firstN t e) e)) (et_not (et_test (ev_call (vs := [.ref a, .int (firstN t e), .int (e : Int)]) (ea3 (ev_var rfl) (ev_call (vs := [.ref a, .int (e : Int)]) (ea2 (ev_var rfl) (ev_var rfl)) fun H3 e3 Q q E => ⟨a, t, _, e, rfl, ex_t e3 ha2, ht, hl, by omega, q⟩) (ev_var rfl)) fun H3 e3 Q q E => ⟨a, t, _, e, _, rfl, ex_t e3 ha2, ht, hl, by omega, by have := first_nonneg ht e; omega, Int.lt_of_le_of_lt (Int.le_trans (first_lt ht e) (pow_mono h400)) (by decide), q⟩))) (fun hb H3 e3 => ?_) (fun hb H3 e3 => ?_)
      · refine s_aug (a := (e : Int)) (b := 1) rfl ev_c fun H4 e4 => ⟨?_, e3.trans e4⟩
        have hc : codeC t e = e + 1 := by
          unfold codeC
          rw [if_neg (by simpa using hb)]
        rw [hc]
        rfl
      · refine ⟨?_, e3⟩
        have hc : codeC t e = e := by
          unfold codeC
          rw [if_pos (by simpa using hb)]
        rw [hc]
        rfl
    · rintro σ' H' ⟨rfl, ex⟩
      have hcl := code_len t e
      have hf := first_nonneg ht (codeC t e)
      have ha3 := ex_t ex ha2
      refine s_retL (el_call (vs := [.int ((firstN t (codeC t e)).toNat : Int), .int (codeC t e : Int)]) (ea2 (ev_is (ev_call (vs := [.ref a, .int (codeC t e : Int)]) (ea2 (ev_var rfl) (ev_var rfl)) fun H3 e3 Q q E => ⟨a, t, _, codeC t e, rfl, ex_t e3 ha3, ht, hl, by omega, q⟩) (by rw [Int.toNat_of_nonneg hf])) (ev_var rfl)) fun H3 e3 Q q E => ⟨_, codeC t e, rfl, by omega, q⟩) fun pl H4 np e4 h4 => q e he h400 pl H4 (fresh_back ((e1.trans e2).trans ex) np) (((e1.trans e2).trans ex).trans e4) h4
end
end K16
set_option Elab.async false
set_option linter.all false
set_option maxRecDepth 100000
set_option maxHeartbeats 4000000
/-! Own exceptions whose __init__ reads self.__class__.__name__: the two attributes. -/
namespace KX
open PySem PySem.W PySem.Calls PyProof.Rows Builtin Builtin.ObjectAttr Builtin.Getset_descriptor
section
variable {prog : Program} {w : World} {A : Around} {E : Value → Shared → Prop} {s : Shared} {K : Frag} {R : Result → Shared → Prop} {C : Addr}
theorem nam_args (d tp : Value) (C : Addr) : descrGetArgs ⟨[d, .ref C, tp], []⟩ = pure (d, some (.ref C), given tp) := by first | rfl | kernel_rfl
/-- the getter of a class's name, where the name is kept -/
theorem nam_get {tp v : Value} {o : Obj} (X : K.In s.heap) (hk : K.lookup C = some o) (hs : o.slots[2]? = some (some v)) (tC : typeIn K (.ref C) = some (.type "type")) (h : R (.ok (.ret v)) s) :
    codeAny (model prog w) A (.call (.builtin "getset_descriptor.__get__") ⟨[.builtin "type.__name__", .ref C, tp], []⟩) R s := by
  obtain ⟨hh, g, dr, t, os⟩ := s
  have T0 : Looks (model prog w) hh (typeOf (.ref C)) (.type "type") := looks_typeIn X tC
  have T1 : Looks (model prog w) hh (isSubtype (.type "type") (.type "type")) true := Looks.of_pure (by rw [isSubtype_type] <;> kernel_rfl)
  refine codeAny_call_builtin KF.slot_gs.plain KF.entry_gs (KF.slot_gs.check _ _ _ _ _ _ _ _ ktyn_type (KF.args_gs _ _ _) ?_)
  unfold Builtin.«getset_descriptor.__get__» descrGet
  rw [nam_args]
  refine wpAny_bind (wpAny_pure ?_)
  unfold descrGetter descrCheckInstance descrNameAndClass isInstance
  simp only [ktyn_owner]
  repeat lk
  refine ⟨Code.quiet_builtin _ (by decide +kernel), codeAny_builtin ktyn_entry ?_⟩
  unfold Builtin.«type.__name__»
  dsimp only
  unfold keptObject slotAt
  dsimp only
  have ho := X _ _ hk
  refine wpAny_bind (wpAny_bind (wpAny_loadPart ho (wpAny_pure ?_)))
  rw [hs]
  first
    | exact wpAny_bind (wpAny_pure (wpAny_pure h))
    | exact wpAny_pure (wpAny_pure h)
    | exact wpAny_bind (wpAny_bind (wpAny_pure h))
    | (show wpAny _ _ (ret v >>= _) _ _ _; exact wpAny_bind (wpAny_pure (wpAny_pure h)))
/-- e.__class__, e an exception of an own class -/
theorem exc_cls {x : Addr} {ox : Obj} {od : Option Obj} {expr : Bool} {gt : Option Value} {Q : Value → Shared → Prop} (X : K.In s.heap) (I : InstAt s.heap x ox C od) (g1 : findIn K (.ref C) "__getattribute__" = some (some (.builtin "BaseException.__getattribute__")))
    (g2 : findIn K (.ref C) "__getattr__" = some gt) (g3 : subIn K (.ref C) (.type "BaseException") = some true) (g4 : findObj K C od "__class__" = some (.bind (.builtin "getset_descriptor.__get__") (.builtin "object.__class__"))) (g5 : mroIn K C (.type "object") = some true)
    (q : Q (.ref C) { s with toks := s.toks + 1 }) : wpAny (model prog w) A (getAttr (.ref x) "__class__" expr) Q E s := by
  obtain ⟨hh, gg, dd, tt, oo⟩ := s
  have a0 := I.type (M := model prog w)
  have a3 := looks_find (M := model prog w) X I g4
  have sub : Looks (model prog w) hh (isInstance (.ref x) (.type "BaseException")) true := a0.andThen (looks_subIn X g3)
  have nb : (Value.builtin "BaseException.__getattribute__" == Value.builtin "object.__getattribute__") = false := by decide +kernel
  have n1 : (onTheHeap (Value.ref C) && Value.builtin "BaseException.__getattribute__" == Value.builtin "object.__getattribute__") = false := (congrArg (onTheHeap (Value.ref C) && ·) nb).trans (Bool.and_false _)
  have n0 : (expr && onTheHeap (Value.builtin "BaseException.__getattribute__")) = false := by cases expr <;> rfl
  unfold getAttr getAttrBy
  refine wpAny_bind (wpAny_mkText (wpAny_holding (wpAny_bind (a0.at (wpAny_bind ((looks_findIn X g1).at ?_)))))); show wpAny _ _ (if (onTheHeap (Value.ref C) && Value.builtin "BaseException.__getattribute__" == Value.builtin "object.__getattribute__") = true then _ else _) _ _ _
  rw [n1, if_neg Bool.false_ne_true]; unfold getAttrByItsOwn hookBefore
  refine wpAny_bind ?_; rw [if_pos (show onTheHeap (Value.ref C) = true from rfl)]
  refine (looks_findIn X g2).at (wpAny_bind (wpAny_attempt (wpAny_holding ?_))); unfold callGetattribute
  rw [n0, if_neg Bool.false_ne_true]; unfold boundAndCalled
  rw [PySem.F.excAttr_ValueError.ga.bind (.ref x)]; refine wpAny_bind (wpAny_pure ?_); show wpAny _ _ (call (.builtin "BaseException.__getattribute__") [.ref x, .str "__class__" tt]) _ _ _
  refine wpAny_call (codeAny_call_builtin PySem.F.excAttr_ValueError.ga.plain PySem.F.entry_bexc_ga (@PySem.W.check_slot (model prog w) _ _ ⟨hh, gg, dd, tt + 1, oo⟩ "BaseException.__getattribute__" "BaseException" "__getattribute__" (.ref x) [.str "__class__" tt] [] _ (by decide +kernel) (by decide +kernel) sub (PySem.F.args_bexc_ga (.ref x) (.str "__class__" tt)) ?_))
  unfold Builtin.«object.__getattribute__»; refine wpAny_bind (wpAny_of_eq (a := ((Value.ref x : Value), [Value.str "__class__" tt])) (by first | rfl | (simp only [slotArgs]; rfl)) (wpAny_bind (wpAny_pure (wpAny_bind (a0.at (wpAny_bind (a3.at ?_)))))))
  refine wpAny_bind (wpAny_holding (wpAny_call (class_get (s := ⟨hh, gg, dd, tt + 1, oo⟩) (ox := ox) (od := od) X I g5 ?_))); refine wpAny_pure ?_
  show wpAny _ _ (handedOut (.ref C)) _ _ _
  rw [handedOut_of (show handedIn (.ref C) = true from rfl)]
  first
    | exact wpAny_pure q
    | exact wpAny_pure (wpAny_pure q)
end
open L2
/-- what the written part says of a class's name -/
structure NamK (K : PySem.W.Frag) (C : Addr) (nm : Str) : Prop where
  ob : ∃ (o : Obj) (tk : Tok), K.lookup C = some o ∧ o.slots[2]? = some (some (.str nm tk))
  ty : PySem.W.typeIn K (.ref C) = some (.type "type")
  rd : PySem.W.readsIn K C (.type "type") = true
  fd : PySem.W.findCls K (.ref C) (.type "type") "__name__" = some (.get (.builtin "getset_descriptor.__get__") (.builtin "type.__name__") (.ref C) (.type "type"))
def tECls (K : PySem.W.Frag) (te : TE) : TE := fun σ H Q => te σ H fun x H1 => ∃ (a C dx : Addr) (fs : List (Str × V)), x = .ref a ∧ ExcC K C ∧ H1 a = some (exo a C (some dx)) ∧ H1 dx = some (exd dx fs) ∧ Q (.ref C) H1
def tCNam (K : PySem.W.Frag) (te : TE) : TE := fun σ H Q => te σ H fun x H1 => ∃ (C : Addr) (nm : Str), x = .ref C ∧ NamK K C nm ∧ Q (.str nm) H1
/-- BaseException.__init__ over an exception that has its dict -/
theorem init_dict {prog : Program} {w : World} {A : Around} {R : Result → Shared → Prop} {h : Heap} {g : Array GenState} {d : Drawn} {t : Nat} {os : OsState} {nm q : Str} {C N : Addr} {bs bm bmB : List Value} {hdct : Bool} {sn : List Str} {sub : List Value} {ab : Bool} {col : Option Bool} {dd : Option Addr} {k0 k1 k2 k3 k5 : Option Value} {B newId initId : String}
    (F : ExcBaseFacts B newId initId bmB) (hT : ∀ X : String, bm.contains (.type X) = bmB.contains (.type X)) {e t0 : Addr} {od : Option Addr} {rest : List Value} (hC : h.get? C = some (excClassObj nm q C N bs bm hdct sn sub ab col dd k0 k1 k2 k3 k5 newId))
    (he : h.get? e = some ({ cls := .ref C, dict := od, data := .fields #[.ref t0, .none, .none, .none, .bool false, .none] } : Obj)) (hr : rest.length ≤ sizeLine)
    (hq : ∀ h' (t1 : Addr), (∀ b o, b ≠ e → h.get? b = some o → h'.get? b = some o) → h'.get? e = some ({ cls := .ref C, dict := od, data := .fields #[.ref t1, .none, .none, .none, .bool false, .none] } : Obj) → R (.ok (.ret .none)) ⟨h', g, d, t, os⟩) :
    codeAny (model prog w) A (.call (.builtin initId) ⟨.ref e :: rest, []⟩) R ⟨h, g, d, t, os⟩ := by
  refine codeAny_call_builtin F.init.plain F.initEntry (PySem.HandSPX.check_init_own F hT hC he rfl ?_)
  wp_walk
  refine hq _ h.objs.size (fun b o hb ho => ?_) ?_
  · rw [Heap.get?_update_other _ _ (fun z => hb z.symm), Heap.get?_push_of_some _ ho]
  · rw [Heap.get?_update_self _ (Heap.get?_push_of_some _ he) rfl]; rfl
section
variable {X : Cx} {pins : List (Addr × Obj)} {σ : L2.St} {H : Hp} {s : Shared} {A : Around} {E : Value → Shared → Prop} {C a : Addr}
theorem init_okD {us : List Value} {od : Option Addr} {Q : Value → Shared → Prop} (T : OexC X.K C) (I : Inv X pins σ H s) (e : H a = some (exo a C od)) (hl : us.length ≤ sizeLine) (h : ∀ s', Inv X pins σ H s' → Q .none s') :
    wpAny (model X.prog X.w) A (call (.builtin "ValueError.__init__") (.ref a :: us)) Q E s := by
  obtain ⟨nm, q, N, bs, bm, sn, sub, ab, col, dd, k0, k1, k2, k3, k5, hC, hbm⟩ := T.cls
  obtain ⟨t1, ho⟩ := exo_at I.hok e
  obtain ⟨hp, g, d, t, os⟩ := s
  refine wpAny_call (init_dict F.excBase_ValueError (fun Y => PySem.HandSPX.refsVE_contains Y bm hbm) (I.kIn _ _ hC) ho hl fun h' t2 k hx => ?_)
  have J := I.write (t' := t) (x := a) (e := a) (o := exo a C od) (by rw [e]; exact True.intro) (.inl rfl) k ⟨_, hx⟩ (exo_ok hx)
  have eu : upd H a (exo a C od) = H := GX.upd_id e
  rw [eu] at J
  exact h _ J
end
section
variable {X : Cx} {e : Expr} {te : TE} {pos : Pos}
/-- ValueError.__init__(self, ..), self with or without its dict -/
def tVeD (K : PySem.W.Frag) (ta : TA) : TE := fun σ H Q => ta σ H fun vs H1 => ∃ (a C : Addr) (od : Option Addr) (ws : List V), vs = .ref a :: ws ∧ ws.length ≤ 1000 ∧ OexC K C ∧ H1 a = some (exo a C od) ∧ Q .non H1
theorem pe_veD {es : List Expr} {ta : TA} {p1 p2 : Pos} {pl : Sem Bool} (hg : Gl X "ValueError") (hm : X.mg "ValueError" = none) (vV : PySem.W.findCls X.K (.type "ValueError") (.type "type") "__init__" = some (.val (.builtin "ValueError.__init__"))) (ha : PA X (e :: es) ta)
    (hc : eval (.Call (.Attribute (.Name "ValueError" p1) "__init__" p2) (e :: es) [] pos) X.env = (eval (.Name "ValueError" p1) X.env >>= fun ov => standAt p2.atName >>= fun _ => holding [ov] (getMethod ov "__init__" pl) >>= fun r => callWith pos r.1 r.2 (backTo pos (starEach (e :: es) X.env)) (backToKw pos (keywordEach [] X.env))) := by rfl)
    (he : starEach (e :: es) X.env = (false, eval e X.env) :: starEach es X.env := by rfl) (hpl : (backTo pos (starEach es X.env)).any (·.1) = false := by rfl) :
    PE X (.Call (.Attribute (.Name "ValueError" p1) "__init__" p2) (e :: es) [] pos) (tVeD X.K ta) := by
  refine ⟨fun pins s σ H Q I h => ?_⟩
  refine PySem.W.methodCall_KW (ld_blt I hg hm PyProof.Rows.Boot.«ValueError» ?_ (by decide) (by decide)) hc
  obtain ⟨m, fr⟩ := I.fr
  refine PySem.W.method_type fr I.ok.mod.kin PySem.OEX.typ_VE (by decide +kernel) vV (by decide +kernel) ?_
  show wpAny _ _ (callWith pos (Value.builtin "ValueError.__init__") [] (backTo pos (starEach (e :: es) X.env)) []) _ _ _
  refine PyProof.Rows.callWith_method1 (thn (ha.run pos pins _ σ H _ (I.tok _) h) fun us s1 ⟨vs, H1, I1, r1, a, C, od, ws, ev, hl, T, ea, q⟩ => ?_) he hpl
  subst ev
  cases r1 with
  | @cons _ u0 _ ur ra rr =>
    obtain rfl : u0 = Value.ref a := ra
    exact init_okD T I1 ea (by rw [← Paired.length rr, sizeLine_eq]; omega) fun s' J => ⟨.non, H1, J, rfl, q⟩
end
section
variable {X : Cx} {e : Expr} {te : TE} {pos : Pos}
theorem pe_cnam (he : PE X e te) (hb : attributeBase e "__name__" X.env (eval e X.env) = eval e X.env := by rfl) : PE X (.Attribute e "__name__" pos) (tCNam X.K te) := by
  refine ⟨fun pins s σ H Q I h => ?_⟩
  refine attr_of hb (thn (he.run pins s σ H _ I h) fun u s1 ⟨x, H1, I1, rx, C, nm, ex, N, q⟩ => ?_)
  subst ex
  obtain rfl : u = Value.ref C := rx
  obtain ⟨o, tk, k1, k2⟩ := N.ob
  refine PySem.W.cls_bind I1.kIn N.rd N.fd ?_
  have I2 := I1.tok (s1.toks + 1)
  refine wpAny_call (nam_get (s := { s1 with toks := s1.toks + 1 }) I2.kIn k1 k2 N.ty ?_)
  exact PySem.W.handed_on rfl ⟨.str nm, H1, I2, ⟨tk, rfl⟩, q⟩
theorem pe_ecls (he : PE X e te) (hb : attributeBase e "__class__" X.env (eval e X.env) = eval e X.env := by rfl) : PE X (.Attribute e "__class__" pos) (tECls X.K te) := by
  refine ⟨fun pins s σ H Q I h => ?_⟩
  refine attr_of hb (thn (he.run pins s σ H _ I h) fun u s1 ⟨x, H1, I1, rx, a, C, dx, fs, ex, T, ea, ed, q⟩ => ?_)
  subst ex
  obtain rfl : u = Value.ref a := rx
  obtain ⟨t1, ho⟩ := exo_at I1.hok ea
  obtain ⟨mA, hns, rel⟩ := exd_at I1.hok ed
  obtain ⟨oD, _, _, hoD, _, _⟩ := hns.count (within_of rel)
  have J : PySem.W.InstAt s1.heap a { cls := .ref C, dict := some dx, data := .fields #[.ref t1, .none, .none, .none, .bool false, .none] } C (some oD) := ⟨ho, rfl, rfl, hoD⟩
  obtain ⟨cd, hc, _⟩ := PySem.W.any_some T.hd
  exact exc_cls I1.kIn J T.hg T.hk T.hs (PySem.W.findObj_dataE (by rw [hc] <;> rfl) T.ha T.hn T.ht) T.hm ⟨.ref C, H1, I1.tok _, rfl, q⟩
end
end KX
set_option Elab.async false
set_option linter.all false
set_option maxRecDepth 100000
set_option maxHeartbeats 4000000
/-! try with several 'except C as e' that take all that comes. -/
namespace KX
open PySem PySem.Spec PyProof.Rows L2
def endsAs (i : Nat) (D : Ends) : Ends := { nx := fun σ H => D.nx (σ.set i none) H, rt := D.rt, bk := fun σ H => D.bk (σ.set i none) H, ct := fun σ H => D.ct (σ.set i none) H }
abbrev Cl := Value × Nat × (Addr → Value → Option Addr → TS)
def wAsAll (K : PySem.W.Frag) (D : Ends) : List Cl → WX
  | [] => fun _ _ _ _ => False
  | (c, i, ts) :: r => fun cls d σ H => ∃ b, PySem.W.exmOne K cls c = some b ∧ (b = true → ∀ a, H a = none → ts a cls d (endsAs i D) (σ.set i (some (.ref a))) H) ∧ (b = false → wAsAll K D r cls d σ H)
inductive ClOk (X : Cx) : List ExceptHandler → List Cl → Prop
  | nil {hs : List ExceptHandler} : ClOk X hs []
  | cons {x n : Str} {c : Value} {i : Nat} {ts : Addr → Value → Option Addr → TS} {b₀ : Stmt} {su : List Stmt} {np p : Pos} {hs : List ExceptHandler} {l : List Cl} (hc : Names X x c) (hi : X.N[i]? = some n) (hn : X.env.kindOf n = some .local)
      (hb : ∀ (a : Addr) (oe : Obj) (cls : Value) (d : Option Addr) (pn : List (Addr × Obj)), Zc cls d oe → (∃ vs, oe.data = .fields vs) → PSs (X.suite a ((a, oe) :: pn)) (b₀ :: su) (ts a cls d)) (r : ClOk X hs l) : ClOk X (.ExceptHandler (some (.Name x np)) (some n) (b₀ :: su) p :: hs) ((c, i, ts) :: l)
section
variable {X : Cx} {body : List Stmt} {h₀ : ExceptHandler} {hds : List ExceptHandler} {l : List Cl} {pos : Pos} {tb : WX → TS}
theorem ps_try_all (hst : X.stack = X.env :: X.outer) (hfm : X.env.frame = some X.env.locals) (hN : X.N.Nodup) (hb : ∀ (W : WX) (pn : List (Addr × Obj)) (xe : Value → Shared → Prop), Takes (X.tr pn xe) W → PassesOwn (model X.prog X.w) X.A X.env xe → PSs (X.tr pn xe) body (tb W)) (hh : ClOk X (h₀ :: hds) l) :
    PS X (.Try body (h₀ :: hds) [] [] pos) (fun D σ H => tb (wAsAll X.K D l) D σ H) := by
  refine ⟨fun pins s σ H D I h => wpAny_Try_except ?_⟩
  have okX := I.ok
  have frX : X.A.frames = some (X.env :: X.outer) := okX.frames.trans (congrArg some hst)
  refine wpAny_mono ((hb (wAsAll X.K D l) (X.pn ++ pins) (fun e t₁ => wpAny (model X.prog X.w) X.A (noteFrame e X.env) (fun _ t₂ => wpAny (model X.prog X.w) X.A (setFlight e none) (fun _ t₃ => wpAny (model X.prog X.w) X.A (handleBy e X.env (h₀ :: hds)) (SP X pins D) X.xe t₃) X.xe t₂) X.xe t₁) (fun u t xx => ?_) PassesOwn.looking).run [] s σ H D (I.toTry _) h) (fun f t ht => ?_) fun _ _ z => z
  · obtain ⟨a, B, sI, pins1, σ1, H1, cls, d, rfl, J0, nb, up, sky, na, os, ag, w⟩ := xx
    have J : Inv X pins σ1 H1 sI := J0.ofTry okX
    refine Sky.land Zc.steady frX hfm (by rw [← hst] <;> exact sky) fun h3 fl3 up3 => ?_
    have J3 : Inv X pins σ1 H1 { t with heap := h3 } := J.landed nb fl3.1 (up.trans up3) os ag
    obtain ⟨oe, vs, he, hz, hd⟩ := fl3.there
    have nfr : a ∉ frs (X.env :: X.outer) := fun hm => by
      obtain ⟨_, o, eo, no⟩ := fl3.2.2.1.mem hm
      exact no vs ((congrArg Obj.data (Option.some.inj (eo.symm.trans he))).trans hd)
    have nL : a ≠ X.env.locals := fun z => nfr (List.mem_filterMap.mpr ⟨X.env, List.mem_cons_self, hfm.trans (congrArg some z.symm)⟩)
    have nF : a ∉ X.fs := fun hm => let ⟨e, m, q⟩ := List.mem_filterMap.mp hm; nfr (List.mem_filterMap.mpr ⟨e, List.mem_cons_of_mem _ m, q⟩)
    have S3 := J3.suite he hd na nL nF
    have LT : PySem.W.Looks (model X.prog X.w) h3 (typeOf (.ref a)) cls := fun A Q E s k q => wpAny_typeOf_ref (k _ _ he) (hz.1 ▸ q)
    have go : ∀ {hs : List ExceptHandler} {l1 : List Cl}, ClOk X hs l1 → wAsAll X.K D l1 cls d σ1 H1 → wpAny (model X.prog X.w) X.A (handleBy (.ref a) X.env hs) (SP X pins D) X.xe { t with heap := h3 } := by
      intro hs l1 hk
      induction hk with
      | nil => exact fun z => False.elim z
      | @cons x n c i ts b₀ su np p hs2 l2 hc hi hn hsu r ih =>
        rintro ⟨b, hb1, yes, no⟩
        refine wpAny_handleBy_cons (codeAny_handlers_test ?_) (fun q => nomatch q)
        have nm : ∀ {Q : Value → Shared → Prop} {E : Value → Shared → Prop}, Q c { t with heap := h3 } → wpAny (model X.prog X.w) (X.A.mark (some (.ref a))) (eval (.Name x np) X.env) Q E { t with heap := h3 } := fun {Q E} q => match hc with
          | ⟨hg, hdb, .inl hm⟩ => ld_glob (X := X.suite a ((a, oe) :: (X.pn ++ pins))) S3 hg hm q hdb
          | ⟨hg, hdb, .inr ⟨hm, hv, hnn⟩⟩ => ld_blt (X := X.suite a ((a, oe) :: (X.pn ++ pins))) S3 hg hm hv q hnn hdb
        refine nm ((PySem.W.exm_one (M := model X.prog X.w) J3.kIn LT hb1).here ?_)
        cases b with
        | false =>
          show wpAny _ X.A (handleBy (.ref a) X.env hs2) _ _ _
          exact ih (no rfl)
        | true =>
          refine codeAny_handlers_suite_as (HandSPX.lands_againZ fl3 fun h4 fl4 up4 => ?_)
          have J4 : Inv X pins σ1 H1 { t with heap := h4 } := J.landed nb fl4.1 ((up.trans up3).trans up4) os ag
          obtain ⟨oe4, vs4, he4, hz4, hd4⟩ := fl4.there
          refine store_ok (X := X.suite a ((a, oe4) :: (X.pn ++ pins))) (v := .ref a) (J4.suite he4 hd4 na nL nF) hN hi (.inl hn) rfl (fun s5 S5 => ?_) (.inr hn)
          refine wpAny_mono ((hsu a oe4 cls d (X.pn ++ pins) hz4 ⟨_, hd4⟩).run [] s5 _ H1 _ S5 (yes rfl a na)) (fun f s6 hsp => ?_) fun _ _ z => z.elim
          have fin : ∀ {σ6 : L2.St} {H6 : Hp} {Q : Shared → Prop}, Inv (X.suite a ((a, oe4) :: (X.pn ++ pins))) [] σ6 H6 s6 → (∀ s7, Inv X pins (σ6.set i none) H6 s7 → Q s7) → wpAny (model X.prog X.w) X.A (do bindName X.env n .none; unbindBehindTheSuite X.env n p) (fun _ s7 => Q s7) X.xe s6 := fun S6 hq => gone_ok (S6.unsuite okX) hN hi hn hq
          match f, hsp with
          | .next, ⟨_, _, S6, q6⟩ => exact fin S6 fun _ J7 => ⟨_, _, J7, q6⟩
          | .brk, ⟨_, _, S6, q6⟩ => exact fin S6 fun _ J7 => ⟨_, _, J7, q6⟩
          | .cont, ⟨_, _, S6, q6⟩ => exact fin S6 fun _ J7 => ⟨_, _, J7, q6⟩
          | .ret u, ⟨_, _, _, S6, r6, q6⟩ => exact fin S6 fun _ J7 => ⟨_, _, _, J7, r6, q6⟩
    exact go hh w
  · match f, ht with
    | .next, ⟨_, _, J, q⟩ => exact wpAny_execs_nil ⟨_, _, J.ofTry okX, q⟩
    | .brk, ⟨_, _, J, q⟩ => exact ⟨_, _, J.ofTry okX, q⟩
    | .cont, ⟨_, _, J, q⟩ => exact ⟨_, _, J.ofTry okX, q⟩
    | .ret u, ⟨_, _, _, J, r, q⟩ => exact ⟨_, _, _, J.ofTry okX, r, q⟩
end
end KX
set_option Elab.async false
set_option linter.all false
set_option maxRecDepth 100000
set_option maxHeartbeats 4000000
/-! Own error classes: what a law needs of them. -/
namespace KX
open PySem PySem.Spec PyProof.Rows L2 GX KC Evl
/-- what the written part says of an own error class and its fields -/
structure ErrK (K : PySem.W.Frag) (C : Addr) (nm : Str) : Prop where
  oc : OexC K C
  ec : L2.ExcC K C
  nk : NamK K C nm
  f1 : PySem.W.findIn K (.ref C) "place" = some none
  f2 : PySem.W.findIn K (.ref C) "name" = some none
def flds (nm : Str) (i : Int) : List (Str × V) := [("name", .str nm), ("place", .int i)]
def spInit (K : PySem.W.Frag) : Sp := fun vs H Q _ => ∃ (a C : Addr) (i : Int) (nm : Str), vs = [.ref a, .int i] ∧ H a = some (exo a C none) ∧ ErrK K C nm ∧ i.natAbs < 2 ^ 100 ∧
  ∀ dx H2, H dx = none → dx ≠ a → H2 a = some (exo a C (some dx)) → H2 dx = some (exd dx (flds nm i)) → (∀ b, b ≠ a → b ≠ dx → H2 b = H b) → Q .non H2
theorem log_bd {n : Nat} (h : n < 2 ^ 100) : n.log2 < 1920 := by
  by_cases z : n = 0
  · subst z; decide
  · have := (Nat.log2_lt z).mpr h
    omega
theorem ofString_len (s : String) : (Str.ofString s).length = s.length := by
  rw [Str.ofString_eq_toList]
  show (s.toList.map Char.toNat).toArray.size = _
  rw [List.size_toArray, List.length_map, String.length_toList]
theorem text_fits {i : Int} (h : i.natAbs < 2 ^ 100) : (Str.empty ++ Str.ofString "at place " ++ Str.ofString (toString i)).length ≤ sizeLine := by
  have h1 := int_text_length_le (a := i) (k := 1920) (by decide) (log_bd h)
  have h2 := ofString_len (toString i)
  show (((#[] : Array Nat) ++ (Str.ofString "at place ").cps) ++ (Str.ofString (toString i)).cps).size ≤ _
  rw [Array.size_append, Array.size_append]
  have h3 : (Str.ofString (toString i)).cps.size = (toString i).length := h2
  have h4 : (Str.ofString "at place ").cps.size = 9 := by decide
  have h5 : 10000 ≤ sizeLine := by decide
  rw [h3, h4]
  show 0 + 9 + _ ≤ _
  omega
section
variable {P : Program} {w : World} {K : PySem.W.Frag} {mg : Str → Option Value} {base : Heap}
/-- an own error class of the text, its __init__ -/
structure ErrG (P : Program) (w : World) (K : PySem.W.Frag) (mg : Str → Option Value) (base : Heap) (nm : Str) (C fI : Addr) (fd : FuncData) : Prop where
  er : ErrK K C nm
  iC : PySem.W.findIn K (.ref C) "__init__" = some (some (.ref fI))
  tI : PySem.W.typeIn K (.ref fI) = some (.type "function")
  g : mg nm = some (.ref C)
  ok : FnOk P w K mg base CX0 1 fI fd ["self", "place"] (spInit K)
  bd : Binds K fd ["self", "place"] []
def ErrOut (C : Addr) (nm : Str) (i : Int) (H : Hp) (E : XK) : Prop := ∀ (d : Addr) H2, H d = none → Ex H H2 → H2 d = some (.xd (flds nm i)) → E (.ref C) (some d) H2
theorem s_mk {σ : L2.St} {H : Hp} {te : TE} {C : Addr} {nm : Str} {i : Int} {W : XK} (T : ErrK K C nm) (h : Ev te σ H (.int i)) (hi : i.natAbs < 2 ^ 100) (k : ErrOut C nm i H W) : tMkO C (spInit K) [] (tCons te tNil) σ H W :=
  h H (Ex.refl H) _ fun H1 e1 => ⟨by show 1 ≤ 1000; decide, fun a ha => ⟨a, C, i, nm, rfl, upd_same, T, hi, fun dx H2 hdx hne h1 h2 hr => by
    have hd1 : H1 dx = none := by rw [upd_ne hne] at hdx; exact hdx
    refine ⟨rfl, dx, _, h1, h2, hd1, k dx _ (fresh_back e1 hd1) (fun x o hx => ?_) upd_same⟩
    have hx1 := e1 x o hx
    have n1 : x ≠ a := fun z => by rw [z, ha] at hx1; cases hx1
    have n2 : x ≠ dx := fun z => by rw [z, hd1] at hx1; cases hx1
    rw [upd_ne n2, del_ne n1, hr x n1 n2, upd_ne n1]
    exact hx1⟩⟩
structure CalX (P : Program) (w : World) (K : PySem.W.Frag) (mg : Str → Option Value) (base : Heap) (nm : Str) (k : Nat) (ps : List Str) (sp : Sp) : Prop where
  out : ∃ f fd, mg nm = some (.ref f) ∧ PySem.W.keepIn K (.ref f) = true ∧ Binds K fd ps [] ∧ FnOk P w K mg base (L2.CX P w) k f fd ps sp
theorem pe_callX {X : Cx} {nm : Str} {k : Nat} {ps : List Str} {sp : Sp} {E : XK} {p pos : Pos} {e : Expr} {es : List Expr} {t : TA} (C : CalX X.prog X.w X.K X.mg X.base nm k ps sp) (hr : Room k X.A) (hg : Gl X nm) (hx : Passes (L2.CX X.prog X.w) X E) (ha : PA X (e :: es) t)
    (hdb : (nm == ("__debug__" : Str)) = false := by decide) (he : starEach (e :: es) X.env = (false, eval e X.env) :: starEach es X.env := by rfl) (hpl : (backTo pos (starEach es X.env)).any (·.1) = false := by rfl) :
    PE X (.Call (.Name nm p) (e :: es) [] pos) (tCall sp [] E t) := by
  obtain ⟨f, fd, h1, h2, h3, h4⟩ := C.out
  exact pe_call h4 hr hg h1 h2 h3 .nil hx ha hdb he hpl
end
end KX
set_option Elab.async false
set_option linter.all false
set_option maxRecDepth 100000
set_option maxHeartbeats 4000000
/-! Pairs, calls that may raise, isinstance, a, b = x, y. -/
namespace KQ
open PySem PySem.Spec PyProof.Rows L2 StX GX KC Evl KX
structure Bs2 (mg : Str → Option Value) : Prop where
  str : mg "str" = none
  tuple : mg "tuple" = none
  all : mg "all" = none
/-! ### a, b = x, y with plain local names -/
def tPar2 (i j : Nat) (ta : TA) : TS := fun D σ H => ta σ H fun vs H1 => ∃ u v, vs = [u, v] ∧ D.nx ((σ.set i (some u)).set j (some v)) H1
section
variable {X : Cx}
theorem ps_par2 {i j : Nat} {x y : Str} {a b : Expr} {ta : TA} {px py pt pos : Pos} {kt k2 pt2} (hc : X.calm = true) (hN : X.N.Nodup) (hi : X.N[i]? = some x) (hj : X.N[j]? = some y) (hij : i ≠ j)
    (hx : X.env.scope.names.lookup x = some .local) (hy : X.env.scope.names.lookup y = some .local) (ha : PA X [a, b] ta)
    (hw : swappedStores [.Tuple [.Name x px, .Name y py] kt pt] (.Tuple [a, b] k2 pt2) X.env = pure (some [x, y])) (hs : swapsWithSole [.Tuple [.Name x px, .Name y py] kt pt] (.Tuple [a, b] k2 pt2) pos.line X.env = pure false := by rfl) :
    PS X (.Assign [.Tuple [.Name x px, .Name y py] kt pt] (.Tuple [a, b] k2 pt2) pos) (tPar2 i j ta) := by
  refine ⟨fun pins s σ H D I h => ?_⟩
  refine (exec_Assign_arm .. ▸ wpAny_bind (wpAny_standAt ?_) : _)
  refine hs ▸ wpAny_bind (wpAny_pure ?_)
  refine (if_neg (show ¬ false = true by decide)).symm ▸ ?_
  refine wpAny_bind (Tuple_ (thn (ha.run _ pins s σ H _ I h) fun us s1 w0 => ?_))
  obtain ⟨vs, H1, I1, r1, v1, v2, e1, q1⟩ := w0
  subst e1
  obtain ⟨u1, u2, rfl, ra, rb⟩ := vals2 r1
  refine wpAny_newObj_type ?_ (by show 2 ≤ sizeLine; decide)
  have I2 : Inv X pins σ H1 { s1 with heap := s1.heap.push { cls := .type "tuple", data := .seq [u1, u2].toArray } } := I1.kept (t' := s1.toks) fun b o e => Heap.get?_push_of_some _ e
  refine hw ▸ wpAny_bind (wpAny_pure ?_)
  show wpAny (model X.prog X.w) X.A (rule "assign.swapped-stores" >>= fun _ => unpackItems (.ref s1.heap.objs.size) 2 none >>= fun its => assignInOrder [fun v => bindName X.env y v, fun v => bindName X.env x v] its.reverse >>= fun _ => pure Flow.next) _ _ _
  refine wpAny_bind (wpAny_rule (wpAny_bind (unpackItems_tuple (items := #[u1, u2]) (I.ok.hd hc) (IsTup.new s1.heap _) fun hp hx2 => ?_)))
  have I3 := I2.kept (h' := hp) (t' := s1.toks) fun b o e => hx2 b o (Nat.ne_of_lt (Heap.lt_size e)) e
  show wpAny _ _ (assignInOrder [fun v => bindName X.env y v, fun v => bindName X.env x v] [u2, u1] >>= fun _ => pure Flow.next) _ _ _
  refine wpAny_bind (assignInOrder_cons (wpAny_bindName (store_ok I3 hN hj (.inl hy) rb (fun s2 I4 => ?_) (.inr hy))))
  refine assignInOrder_cons (wpAny_bindName (store_ok I4 hN hi (.inl hx) ra (fun s3 I5 => assignInOrder_nil (wpAny_pure ?_)) (.inr hx)))
  rw [List.set_comm _ _ (Ne.symm hij)] at I5
  exact ⟨_, H1, I5, q1⟩
end
/-! ### calls that may raise -/
theorem ErrOut.mono {C : Addr} {nm : Str} {i : Int} {H H' : Hp} {E : XK} (e : Ex H H') (h : ErrOut C nm i H E) : ErrOut C nm i H' E := fun d H2 hd e2 h2 => h d H2 (fresh_back e hd) (e.trans e2) h2
/-- a new tuple -/
def RetT (xs : List V) (H : Hp) (Q : VK) : Prop := ∀ p H2, H p = none → Ex H H2 → H2 p = some (.tup xs) → Q (.ref p) H2
theorem RetT.mono {xs : List V} {H H' : Hp} {Q : VK} (e : Ex H H') (h : RetT xs H Q) : RetT xs H' Q := fun p H2 hp e2 h2 => h p H2 (fresh_back e hp) (e.trans e2) h2
section
variable {K : PySem.W.Frag} {σ : L2.St} {H H' : Hp} {ta tb tc te tx tl : TE} {D : Ends} {tz : TS} {x y z v : V} {t u : TT}
theorem q_par2 {i j : Nat} {ta : TA} (h : EvA ta σ H [x, y]) (k : ∀ H1, Ex H H1 → tz D ((σ.set i (some x)).set j (some y)) H1) : tSeq (tPar2 i j ta) tz D σ H := h H (Ex.refl H) _ fun H1 e1 => ⟨_, _, rfl, k H1 e1⟩
theorem s_par2 {i j : Nat} {ta : TA} (h : EvA ta σ H [x, y]) (k : ∀ H1, Ex H H1 → D.nx ((σ.set i (some x)).set j (some y)) H1) : tPar2 i j ta D σ H := h H (Ex.refl H) _ fun H1 e1 => ⟨_, _, rfl, k H1 e1⟩
theorem q_asg2 {i j : Nat} {ta : TA} (h : EvA ta σ H [x, y]) (k : ∀ H1, Ex H H1 → tz D ((σ.set i (some x)).set j (some y)) H1) : tSeq (tAsg (tTup ta) (gTup K 2 (gCons (gName i) (gCons (gName j) gNil)))) tz D σ H :=
  h H (Ex.refl H) _ fun H1 e1 => ⟨by show 2 ≤ sizeLine; decide, fun p hp => ⟨p, _, rfl, .inl (.inl upd_same), rfl, _, _, rfl, _, _, rfl, rfl, k _ (e1.trans (Ex.new hp))⟩⟩
theorem g_two {i j : Nat} {p : Addr} {Q : L2.St → Hp → Prop} (hp : SqT K H p [x, y]) (k : Q ((σ.set i (some x)).set j (some y)) H) : gTup K 2 (gCons (gName i) (gCons (gName j) gNil)) (.ref p) σ H Q := ⟨p, _, rfl, hp, rfl, _, _, rfl, _, _, rfl, rfl, k⟩
theorem g_three {i j l : Nat} {p : Addr} {Q : L2.St → Hp → Prop} (hp : SqT K H p [x, y, z]) (k : Q (((σ.set i (some x)).set j (some y)).set l (some z)) H) : gTup K 3 (gCons (gName i) (gCons (gName j) (gCons (gName l) gNil))) (.ref p) σ H Q := ⟨p, _, rfl, hp, rfl, _, _, rfl, _, _, rfl, _, _, rfl, rfl, k⟩
theorem q_unp2 {i j : Nat} {p : Addr} (h : Ev te σ H (.ref p)) (hp : SqT K H p [x, y]) (k : ∀ H1, Ex H H1 → tz D ((σ.set i (some x)).set j (some y)) H1) : tSeq (tAsg te (gTup K 2 (gCons (gName i) (gCons (gName j) gNil)))) tz D σ H :=
  h H (Ex.refl H) _ fun H1 e1 => g_two (ex_t e1 hp) (k H1 e1)
theorem q_unp3' {i j l : Nat} {p : Addr} (h : Ev te σ H (.ref p)) (hp : SqT K H p [x, y, z]) (k : ∀ H1, Ex H H1 → tz D (((σ.set i (some x)).set j (some y)).set l (some z)) H1) : tSeq (tAsg te (gTup K 3 (gCons (gName i) (gCons (gName j) (gCons (gName l) gNil))))) tz D σ H :=
  h H (Ex.refl H) _ fun H1 e1 => g_three (ex_t e1 hp) (k H1 e1)
/-- a, b = f(..) -/
theorem q_unpX {sp : Sp} {E : XK} {vs : List V} {ta : TA} {g : TG} (h : EvA ta σ H vs) (k : ∀ H1, Ex H H1 → sp (vs ++ []) H1 (fun v H2 => g v σ H2 fun σ' H' => tz D σ' H') E) : tSeq (tAsg (tCall sp [] E ta) g) tz D σ H := h H (Ex.refl H) _ fun H1 e1 => k H1 e1
theorem s_unpX {sp : Sp} {E : XK} {vs : List V} {ta : TA} {g : TG} (h : EvA ta σ H vs) (k : ∀ H1, Ex H H1 → sp (vs ++ []) H1 (fun v H2 => g v σ H2 fun σ' H' => D.nx σ' H') E) : tAsg (tCall sp [] E ta) g D σ H := h H (Ex.refl H) _ fun H1 e1 => k H1 e1
theorem s_retX {sp : Sp} {E : XK} {vs : List V} {ta : TA} (h : EvA ta σ H vs) (k : ∀ H1, Ex H H1 → sp (vs ++ []) H1 D.rt E) : tRet (tCall sp [] E ta) D σ H := h H (Ex.refl H) _ fun H1 e1 => k H1 e1
/-- return xs, y with a new list -/
theorem s_retLT {xs : List V} (h : EvL ta σ H xs) (h2 : ∀ H1, Ex H H1 → Ev tb σ H1 y) (k : ∀ b p H2, H b = none → H p = none → Ex H H2 → H2 b = some (.lst xs) → H2 p = some (.tup [.ref b, y]) → D.rt (.ref p) H2) : tRet (tTup (tCons ta (tCons tb tNil))) D σ H :=
  h H (Ex.refl H) _ fun b H1 nb e1 h1 => h2 H1 e1 H1 (Ex.refl H1) _ fun H2 e2 => ⟨by show 2 ≤ sizeLine; decide, fun p hp => k b p _ nb (fresh_back (e1.trans e2) hp) ((e1.trans e2).trans (Ex.new hp)) ((e2.trans (Ex.new hp)) b _ h1) upd_same⟩
/-- return x, ys with a new list -/
theorem s_retTL {xs : List V} (h : Ev ta σ H x) (h2 : ∀ H1, Ex H H1 → EvL tb σ H1 xs) (k : ∀ b p H2, H b = none → H p = none → Ex H H2 → H2 b = some (.lst xs) → H2 p = some (.tup [x, .ref b]) → D.rt (.ref p) H2) : tRet (tTup (tCons ta (tCons tb tNil))) D σ H :=
  h H (Ex.refl H) _ fun H1 e1 => h2 H1 e1 H1 (Ex.refl H1) _ fun b H2 nb e2 hb => ⟨by show 2 ≤ sizeLine; decide, fun p hp => k b p _ (fresh_back e1 nb) (fresh_back (e1.trans e2) hp) ((e1.trans e2).trans (Ex.new hp)) ((Ex.new hp) b _ hb) upd_same⟩
/-- return x, y -/
theorem s_ret2 (h : Ev ta σ H x) (h2 : Ev tb σ H y) (k : RetT [x, y] H D.rt) : tRet (tTup (tCons ta (tCons tb tNil))) D σ H := s_retU (eu_tup (ea2 h h2) (by show 2 ≤ 100000; decide)) k
theorem s_ret3 (h : Ev ta σ H x) (h2 : Ev tb σ H y) (h3 : Ev tc σ H z) (k : RetT [x, y, z] H D.rt) : tRet (tTup (tCons ta (tCons tb (tCons tc tNil)))) D σ H := s_retU (eu_tup (ea3 h h2 h3) (by show 3 ≤ 100000; decide)) k
theorem ep_call {sp : Sp} {dvs vs : List V} {E : XK} {ta : TA} {R : V → Hp → Prop} (h : EvA ta σ H vs) (hs : ∀ H1, Ex H H1 → ∀ Q : VK, (∀ v H2, Ex H1 H2 → R v H2 → Q v H2) → sp (vs ++ dvs) H1 Q E) : EvP (tCall sp dvs E ta) σ H R := fun H1 e Q q =>
  h H1 e _ fun H2 e2 => hs H2 (e.trans e2) Q fun v H3 e3 r => q v H3 (e2.trans e3) r
theorem el_cat3 {xs ys : List V} {a : Addr} (ha : Ev ta σ H (.ref a)) (h0 : H a = some (.lst xs)) (hb : EvL tb σ H ys) (hz : xs.length + ys.length ≤ 100000) : EvL (tOp rCat ta tb) σ H (xs ++ ys) := fun H1 e Q q =>
  ha H1 e _ fun H2 e2 => hb H2 (e.trans e2) _ fun p H3 np e3 hp => ⟨a, p, xs, ys, rfl, rfl, ((e.trans e2).trans e3) a _ h0, hp, sz_of hz, fun p2 hp2 => q p2 _ (fresh_back (e2.trans e3) hp2) ((e2.trans e3).trans (Ex.new hp2)) upd_same⟩
theorem el_catLL {xs ys : List V} (ha : EvL ta σ H xs) (hb : EvL tb σ H ys) (hz : xs.length + ys.length ≤ 100000) : EvL (tOp rCat ta tb) σ H (xs ++ ys) := fun H1 e Q q =>
  ha H1 e _ fun a H2 na e2 h2 => hb H2 (e.trans e2) _ fun p H3 np e3 hp => ⟨a, p, xs, ys, rfl, rfl, e3 a _ h2, hp, sz_of hz, fun p2 hp2 => q p2 _ (fresh_back (e2.trans e3) hp2) ((e2.trans e3).trans (Ex.new hp2)) upd_same⟩
/-- isinstance(x, C) of a value that is at hand -/
theorem ev_isi {c : String} {t : Value} {b : Bool} (h : Ev ta σ H x) (ty : ∀ H1, Ex H H1 → TyX K H1 x t) (hk : PySem.W.kitOne K t (.type c) = some b) : Ev (tCB (rIsi K) (tCons ta (tCons (tC (.ty c)) tNil))) σ H (.bl b) := fun H1 e Q q =>
  h H1 e _ fun H2 e2 => ⟨x, .ty c, t, .type c, b, rfl, .ty c, ty H2 (e.trans e2), hk, q H2 e2⟩
theorem EvP.of_ev (h : Ev te σ H v) : EvP te σ H fun w _ => w = v := fun H1 e Q q => h H1 e Q fun H2 e2 => q _ H2 e2 rfl
theorem dpAll_at {ds : List PyData} {vs : List V} (h : DpAll K H vs ds) {j : Nat} {d : PyData} (hj : ds[j]? = some d) : ∃ v, vs[j]? = some v ∧ Dp K H v d := by
  induction ds generalizing vs j with
  | nil => simp at hj
  | cons d0 r ih =>
    cases h with
    | cons a b =>
      cases j with
      | zero =>
        have : d0 = d := by simpa using hj
        subst this
        exact ⟨_, rfl, a⟩
      | succ j =>
        obtain ⟨v, h1, h2⟩ := ih b (j := j) (by simpa using hj)
        exact ⟨v, by simpa using h1, h2⟩
/-- [a, b, ..][j], data -/
theorem ed_ixNew {ta : TA} {ds : List PyData} {d : PyData} {j : Nat} {i : Int} (h : EvDA K ta σ H ds) (hl : ds.length ≤ 100000) (hb : Ev tb σ H (.int i)) (ei : i = (j : Int)) (hj : ds[j]? = some d) : EvD K (tOp (rIxL K) (tLst ta) tb) σ H d := fun H1 e Q q =>
  h H1 e _ fun vs H2 e2 hvs => ⟨sz_of (by rw [DpAll.len hvs]; exact hl), fun p hp => hb _ ((e.trans e2).trans (Ex.new hp)) _ fun H3 e3 => by
    obtain ⟨v, h1, h2⟩ := dpAll_at hvs hj
    exact ⟨p, vs, i, v, rfl, rfl, sq_of (e3 p _ upd_same), at_of ei h1, q v H3 ((e2.trans (Ex.new hp)).trans e3) (Dp.ext ((Ex.new hp).trans e3) _ _ h2)⟩⟩
end
section
variable {K : PySem.W.Frag} {σ : L2.St} {H H' : Hp} {ta tb tc te tx tl : TE} {D : Ends} {tu tz : TS} {g : TG} {x y z v : V}
/-- for .. in reversed(f(..)): over a list that is made -/
theorem s_forRevP {C : Addr → List V → Hp → Prop} (h : EvP te σ H fun v H1 => ∃ p xs, v = .ref p ∧ H1 p = some (.lst xs) ∧ C p xs H1) (Pv : Addr → List V → Nat → L2.St → Hp → Prop) (h0 : ∀ p xs H1, Ex H H1 → H1 p = some (.lst xs) → C p xs H1 → Pv p xs 0 σ H1) (hl : ∀ p xs i σ' H', i ≤ xs.length → Pv p xs i σ' H' → SqL K H' p xs)
    (hs : ∀ p xs i x σ' H', xs[xs.length - 1 - i]? = some x → i < xs.length → Pv p xs i σ' H' → g x σ' H' fun σ2 H2 => tu { D with nx := Pv p xs (i + 1), ct := Pv p xs (i + 1), bk := D.nx } σ2 H2) (hd : ∀ p xs σ' H', Pv p xs xs.length σ' H' → D.nx σ' H') : tFor (iRev K (tCons te tNil)) g tu D σ H := by
  refine h H (Ex.refl H) _ fun v H1 e1 hv => ?_
  obtain ⟨p, xs, rfl, h1, hc⟩ := hv
  refine ⟨p, xs, rfl, sq_of h1, fun i m σ H => m = xs.length - i ∧ i ≤ xs.length ∧ Pv p xs i σ H, ⟨xs.length, by simp, Nat.zero_le _, h0 p xs H1 e1 h1 hc⟩, ?_⟩
  rintro i m σ H ⟨rfl, hi, pv⟩
  have q := hl p xs i σ H hi pv
  by_cases hlt : i < xs.length
  · have hx : xs[xs.length - 1 - i]? = some (xs[xs.length - 1 - i]'(by omega)) := List.getElem?_eq_getElem (by omega)
    refine .inr ⟨⟨hlt, xs, _, q, hx⟩, Pv p xs (i + 1), fun σ' H' p' => ⟨xs.length - (i + 1), by omega, rfl, hlt, p'⟩, fun x H' y => ?_⟩
    obtain ⟨rfl, hy⟩ := y
    exact hs p xs i x σ _ (hy xs q) hlt pv
  · have : i = xs.length := by omega
    subst this
    exact .inl ⟨Nat.le_refl _, hd p xs σ H pv⟩
theorem q_forRevP {C : Addr → List V → Hp → Prop} (h : EvP te σ H fun v H1 => ∃ p xs, v = .ref p ∧ H1 p = some (.lst xs) ∧ C p xs H1) (Pv : Addr → List V → Nat → L2.St → Hp → Prop) (h0 : ∀ p xs H1, Ex H H1 → H1 p = some (.lst xs) → C p xs H1 → Pv p xs 0 σ H1) (hl : ∀ p xs i σ' H', i ≤ xs.length → Pv p xs i σ' H' → SqL K H' p xs)
    (hs : ∀ p xs i x σ' H', xs[xs.length - 1 - i]? = some x → i < xs.length → Pv p xs i σ' H' → g x σ' H' fun σ2 H2 => tu { D with nx := Pv p xs (i + 1), ct := Pv p xs (i + 1), bk := tz D } σ2 H2) (hd : ∀ p xs σ' H', Pv p xs xs.length σ' H' → tz D σ' H') : tSeq (tFor (iRev K (tCons te tNil)) g tu) tz D σ H :=
  s_forRevP (D := { D with nx := tz D }) h Pv h0 hl hs hd
theorem q_forRevN {xs : List V} (h : EvL te σ H xs) (Pv : Addr → Nat → L2.St → Hp → Prop) (h0 : ∀ p H1, H p = none → Ex H H1 → H1 p = some (.lst xs) → Pv p 0 σ H1) (hl : ∀ p i σ' H', i ≤ xs.length → Pv p i σ' H' → SqL K H' p xs)
    (hs : ∀ p i x σ' H', xs[xs.length - 1 - i]? = some x → i < xs.length → Pv p i σ' H' → g x σ' H' fun σ2 H2 => tu { D with nx := Pv p (i + 1), ct := Pv p (i + 1), bk := tz D } σ2 H2) (hd : ∀ p σ' H', Pv p xs.length σ' H' → tz D σ' H') : tSeq (tFor (iRev K (tCons te tNil)) g tu) tz D σ H :=
  q_forRevP (C := fun p ys H1 => ys = xs ∧ H p = none ∧ H1 p = some (.lst xs)) (fun H1 e Q q => h H1 e Q fun p H2 np e2 h2 => q _ H2 e2 ⟨p, xs, rfl, h2, rfl, fresh_back e np, h2⟩) (fun p ys i σ' H' => ys = xs ∧ Pv p i σ' H') (fun p ys H1 e1 h1 ⟨a, b, c⟩ => ⟨a, h0 p H1 b e1 c⟩) (fun p ys i σ' H' hi ⟨a, b⟩ => by subst a; exact hl p i σ' H' hi b)
    (fun p ys i x σ' H' hx hi ⟨a, b⟩ => by
      subst a
      have key : ∀ σ2 H2, (fun σ H => Pv p (i + 1) σ H) σ2 H2 ↔ (ys = ys ∧ Pv p (i + 1) σ2 H2) := fun σ2 H2 => ⟨fun z => ⟨rfl, z⟩, fun z => z.2⟩
      have e : (fun σ2 H2 => ys = ys ∧ Pv p (i + 1) σ2 H2) = Pv p (i + 1) := by
        funext σ2 H2
        exact propext (key σ2 H2).symm
      rw [e]
      exact hs p i x σ' H' hx hi b) (fun p ys σ' H' ⟨a, b⟩ => by subst a; exact hd p σ' H' b)
/-- xs[i:j] of a new list -/
theorem el_slN {tl th : TO} {xs : List V} {lo hi : Option Int} (h : EvL te σ H xs) (h1 : ∀ H1, Ex H H1 → EvO tl σ H1 lo) (h2 : ∀ H1, Ex H H1 → EvO th σ H1 hi) : EvL (tSl (rSlL K) te tl th) σ H (cutV xs lo hi) := fun H1 e Q q =>
  h H1 e _ fun a H2 na e2 ha => h1 H2 (e.trans e2) H2 (Ex.refl _) _ fun H3 e3 => h2 H3 ((e.trans e2).trans e3) H3 (Ex.refl _) _ fun H4 e4 =>
    ⟨a, xs, rfl, sq_of ((e3.trans e4) a _ ha), fun p hp => q p _ (fresh_back ((e2.trans e3).trans e4) hp) (((e2.trans e3).trans e4).trans (Ex.new hp)) upd_same⟩
theorem cutV_from (xs : List V) (n : Nat) : cutV xs (some (n : Int)) none = xs.drop n := by
  unfold cutV
  rw [HT.sIx_none, HT.sIx_nat]
  by_cases h : n ≤ xs.length
  · rw [Nat.min_eq_left h, List.take_of_length_le (by rw [List.length_drop]; omega)]
  · rw [Nat.min_eq_right (by omega), List.drop_eq_nil_of_le (Nat.le_refl _), List.drop_eq_nil_of_le (by omega), List.take_nil]
theorem ev_bits {i : Int} (h : Ev te σ H (.int i)) : Ev (tBits te) σ H (.int (Builtin.Int.intBits i : Nat)) := fun H1 e Q q => h H1 e _ fun H2 e2 => ⟨i, rfl, q H2 e2⟩
/-- [e for j in range(a, b, -1)] -/
theorem el_lcDown {ta : TA} {te : TE} {j : Nat} {vs : List Nat} {a b : Int} {n : Nat} (v : Nat → V) (h : EvA ta σ H [.int a, .int b, .int (-1)]) (hn : (a - b).toNat = n) (ha : -100000 ≤ a ∧ a ≤ 100000) (hb : -100000 ≤ b ∧ b ≤ 100000) (hn2 : n ≤ 40000)
    (hw : ∀ x, wipe ((wipe σ vs).set j (some x)) vs = wipe σ vs) (he : ∀ (i : Nat) H1, Ex H H1 → i < n → Ev te ((wipe σ vs).set j (some (.int (a + (i : Nat) * (-1))))) H1 (v i)) : EvL (tLc (iRng3 ta) (gName j) tYes te vs) σ H ((List.range n).map v) := fun H1 e Q q =>
  h H1 e _ fun H2 e2 => ⟨a, b, -1, n, rfl, by rw [← hn]; exact RgC.neg (by omega) (by omega) (by omega) (by omega), fun Dl hD =>
    ⟨fun i m H' => m + i = n ∧ H2 Dl = none ∧ Ex H2 H' ∧ H' Dl = some (.lst ((List.range i).map v)), ⟨n, by omega, hD, Ex.new hD, upd_same⟩, fun i m H' hW => by
      obtain ⟨hm, hD2, e3, hl⟩ := hW
      by_cases hi : i < n
      · right
        refine ⟨hi, fun H' => (m - 1) + (i + 1) = n ∧ H2 Dl = none ∧ Ex H2 H' ∧ H' Dl = some (.lst ((List.range (i + 1)).map v)), fun H' q => ⟨m - 1, by omega, q⟩, ?_⟩
        rintro x H5 ⟨rfl, rfl⟩
        refine ⟨hw _, tt_yes ?_⟩
        refine he i _ ((e.trans e2).trans e3) hi _ (Ex.refl _) _ fun H6 e6 => ?_
        refine ⟨_, e6 Dl _ hl, sz_lt (by rw [List.length_map, List.length_range]; omega), by omega, hD2, Ex.mut (e3.trans e6) hD2, ?_⟩
        rw [upd_same, List.range_succ, List.map_append]
        rfl
      · left
        have hin : i = n := by omega
        subst hin
        exact ⟨Nat.le_refl _, q Dl H' (fresh_back e2 hD2) (e2.trans e3) hl⟩⟩⟩
theorem p2_abs (m : Nat) : ((2 : Int) ^ m).natAbs < 2 ^ (m + 1) := by
  rw [Int.natAbs_pow]
  exact Nat.pow_lt_pow_right (by decide) (Nat.lt_succ_self m)
theorem rv_divP {i : Int} {m : Nat} (h : m ≤ 8000) : RV (rI CDivW fun i j => .int (i / j)) (.int i) (.int (2 ^ m)) H (.int (i / 2 ^ m)) := rv_I (wide_div (b := m + 1) (Int.pow_pos (by decide)) (p2_abs m) (by omega) (by omega))
/-- 1 << m -/
theorem ev_shl1 {z : Int} {m : Nat} (h : Ev te σ H (.int z)) (e : z = (m : Int)) (hm : m ≤ 1000000) : Ev (tOp (rI CPow fun i j => .int (i * 2 ^ j.toNat)) (tC (.int 1)) te) σ H (.int (2 ^ m)) := by
  subst e
  refine ev_is (ev_op (ev_c (v := .int 1)) h (rv_shl ⟨by omega, by omega, by decide⟩)) ?_
  rw [Int.toNat_natCast, Int.one_mul]
/-- a list of lists of ints -/
def LL (H : Hp) (p : Addr) (cs : List (List Int)) : Prop := ∃ rs : List Addr, H p = some (.lst (rs.map V.ref)) ∧ rs.length = cs.length ∧ ∀ (j : Nat) (r : Addr) (c : List Int), rs[j]? = some r → cs[j]? = some c → H r = some (.lst (c.map V.int))
theorem LL.ext {p : Addr} {cs : List (List Int)} (e : Ex H H') (h : LL H p cs) : LL H' p cs := by
  obtain ⟨rs, h1, h2, h3⟩ := h
  exact ⟨rs, e _ _ h1, h2, fun j r c a b => e _ _ (h3 j r c a b)⟩
theorem LL.at_ {p : Addr} {cs : List (List Int)} (h : LL H p cs) {j : Nat} {c : List Int} (hc : cs[j]? = some c) : ∃ r, H r = some (.lst (c.map V.int)) ∧ ∀ {te ti : TE} {σ : L2.St} {H' : Hp} {i : Int}, Ex H H' → Ev te σ H' (.ref p) → Ev ti σ H' (.int i) → i = (j : Int) → Ev (tOp (rIxL K) te ti) σ H' (.ref r) := by
  obtain ⟨rs, h1, h2, h3⟩ := h
  obtain ⟨r, hr⟩ : ∃ r, rs[j]? = some r := ⟨_, List.getElem?_eq_getElem (by rw [h2]; exact (List.getElem?_eq_some_iff.mp hc).1)⟩
  refine ⟨r, h3 j r c hr hc, fun e a b ei => ev_op a b (rv_ixL (sq_of (e _ _ h1)) (at_of ei ?_))⟩
  rw [List.getElem?_map, hr]
  rfl
theorem LL.dp {p : Addr} {cs : List (List Int)} (h : LL H p cs) : Dp K H (.ref p) (.list (cs.map fun c => .list (c.map PyData.int))) := by
  obtain ⟨rs, h1, h2, h3⟩ := h
  refine .lst (sq_of h1) ?_
  clear h1
  induction cs generalizing rs with
  | nil =>
    have : rs = [] := List.length_eq_zero_iff.mp h2
    subst this
    exact .nil
  | cons c r ih =>
    match rs, h2, h3 with
    | a :: rs, h2, h3 => exact .cons (dp_listI (sq_of (h3 0 a c rfl rfl))) (ih rs (by simpa using h2) fun j r c a b => h3 (j + 1) r c a b)
theorem ll_eqv (cs : List (List Int)) : PyData.eqv (.list (cs.map fun c => .list (c.map PyData.int))) (.list (cs.map fun c => .list (c.map PyData.int))) = true := eqv_list (fun a => eqv_ints a) cs
theorem ll_shaped (cs : List (List Int)) : SeqAt.shaped (.list (cs.map fun c => .list (c.map PyData.int))) = true := shaped_list (n := 10) (by decide) (fun a => by simp only [PyData.canLay0]; exact canLayAll0_map (fun a => by simp [PyData.canLay0]) a) (fun a => by
  have := depthAll_map (f := PyData.int) (n := 1) (fun a => by simp [PyData.depth]) a
  simp only [PyData.depth]
  omega) cs
/-- [f(..), g(..), h(..), k(..)], four new lists -/
theorem ep_lst4L {t1 t2 t3 t4 : TE} {a b c d : List Int} (h1 : EvL t1 σ H (a.map V.int)) (h2 : EvL t2 σ H (b.map V.int)) (h3 : EvL t3 σ H (c.map V.int)) (h4 : EvL t4 σ H (d.map V.int)) : EvP (tLst (tCons t1 (tCons t2 (tCons t3 (tCons t4 tNil))))) σ H fun v H' => ∃ p, v = .ref p ∧ H p = none ∧ LL H' p [a, b, c, d] := fun H0 e0 Q q =>
  h1 H0 e0 _ fun p1 H1 n1 e1 x1 => h2 H1 (e0.trans e1) _ fun p2 H2 n2 e2 x2 => h3 H2 ((e0.trans e1).trans e2) _ fun p3 H3 n3 e3 x3 => h4 H3 (((e0.trans e1).trans e2).trans e3) _ fun p4 H4 n4 e4 x4 => ⟨by show 4 ≤ sizeLine; decide, fun l hl => by
    have e14 := (e2.trans e3).trans e4
    have e5 : Ex H4 (upd H4 l (.lst [.ref p1, .ref p2, .ref p3, .ref p4])) := Ex.new hl
    refine q _ _ ((e1.trans e14).trans e5) ⟨l, rfl, fresh_back (e0.trans (e1.trans e14)) hl, [p1, p2, p3, p4], upd_same, rfl, fun j r cc hr hc => ?_⟩
    match j, hr, hc with
    | 0, hr, hc =>
      cases hr
      cases hc
      exact (e14.trans e5) _ _ x1
    | 1, hr, hc =>
      cases hr
      cases hc
      exact ((e3.trans e4).trans e5) _ _ x2
    | 2, hr, hc =>
      cases hr
      cases hc
      exact (e4.trans e5) _ _ x3
    | 3, hr, hc =>
      cases hr
      cases hc
      exact e5 _ _ x4⟩
theorem given_all (n : Nat) (v : Nat → V) : given n (fun _ => true) v = (List.range n).map v := by
  unfold given
  rw [List.filter_eq_self.mpr fun _ _ => rfl]
/-- [e for j in range(n)] -/
theorem el_lcN {ta : TA} {te : TE} {j : Nat} {vs : List Nat} {n : Nat} {z : Int} (v : Nat → V) (h : EvA ta σ H [.int z]) (ez : z = (n : Int)) (hn : n ≤ 40000) (hw : ∀ x, wipe ((wipe σ vs).set j (some x)) vs = wipe σ vs) (he : ∀ (i : Nat) H1, Ex H H1 → i < n → Ev te ((wipe σ vs).set j (some (.int (i : Int)))) H1 (v i)) :
    EvL (tLc (iRng1 ta) (gName j) tYes te vs) σ H ((List.range n).map v) := by
  subst ez
  rw [← given_all]
  have := el_lcR1 (σ := σ) (H := H) (te := te) (j := j) (vs := vs) (fun _ => true) v h ⟨by omega, by omega⟩ hw (fun i H1 e hi => et_yes) (fun i H1 e hi _ => he i H1 e (by omega))
  rwa [Int.toNat_natCast] at this
theorem cutV_ints (ns : List Int) (lo hi : Option Int) : ∃ ys : List Int, cutV (ns.map V.int) lo hi = ys.map V.int ∧ ys.length ≤ ns.length ∧ ∀ y ∈ ys, y ∈ ns := by
  refine ⟨(ns.drop (HT.sIx ns.length 0 lo)).take (HT.sIx ns.length ns.length hi - HT.sIx ns.length 0 lo), ?_, ?_, fun y hy => List.mem_of_mem_drop (List.mem_of_mem_take hy)⟩
  · unfold cutV
    rw [List.length_map, List.map_take, List.map_drop]
  · rw [List.length_take, List.length_drop]
    omega
/-- [f(x) for x in xs], xs a new list of ints -/
theorem el_lcMap {tl : TE} {j : Nat} {vs : List Nat} {xs : List Int} (f : Int → Int) (h : EvL tl σ H (xs.map V.int)) (hz : xs.length ≤ 40000) (hw : ∀ x, wipe ((wipe σ vs).set j (some x)) vs = wipe σ vs)
    (he : ∀ (x : Int) H1, x ∈ xs → Ex H H1 → Ev te ((wipe σ vs).set j (some (.int x))) H1 (.int (f x))) : EvL (tLc (iList K tl) (gName j) tYes te vs) σ H ((xs.map f).map V.int) := by
  have e : (xs.map f).map V.int = given (xs.map V.int).length (fun _ => true) (fun i => V.int (f (xs.getD i 0))) := by
    rw [given_all, List.length_map]
    refine List.ext_getElem (by simp) fun i h1 h2 => ?_
    have hi : i < xs.length := by simpa using h1
    simp only [List.getElem_map, List.getElem_range]
    rw [List.getD_eq_getElem?_getD, List.getElem?_eq_getElem hi]
    rfl
  rw [e]
  refine el_lcNL (K := K) _ _ h (by rw [List.length_map]; exact hz) hw (fun i x H1 e1 hx => et_yes) (fun i x H1 e1 hx _ => ?_)
  have hi : i < xs.length := by
    have := (List.getElem?_eq_some_iff.mp hx).1
    rwa [List.length_map] at this
  rw [int_at hi] at hx
  have ex := Option.some.inj hx
  subst ex
  have hmem : xs.getD i 0 ∈ xs := by
    rw [List.getD_eq_getElem?_getD, List.getElem?_eq_getElem hi]
    exact List.getElem_mem hi
  exact he _ H1 hmem e1
theorem s_retXS {sp : Sp} {E : L2.St → XK} {vs : List V} {ta : TA} (h : EvA ta σ H vs) (k : ∀ H1, Ex H H1 → sp vs H1 D.rt (E σ)) : tRet (tCallS sp E ta) D σ H := h H (Ex.refl H) _ fun H1 e1 => k H1 e1
/-- return e.name, e.place -/
theorem s_caught {a C d : Addr} {nm : Str} {i : Int} {j : Nat} (hσ : σ[j]? = some (some (.ref a))) (hd : H d = some (.xd (flds nm i))) (q : RetT [.str nm, .int i] H D.rt) : tRet (tTup (tCons (tXf a (.ref C) (some d) C "name" (tVar j)) (tCons (tXf a (.ref C) (some d) C "place" (tVar j)) tNil))) D σ H :=
  ⟨_, hσ, rfl, rfl, d, _, _, rfl, hd, rfl, _, hσ, rfl, rfl, d, _, _, rfl, hd, rfl, by show 2 ≤ sizeLine; decide, fun p hp => q p _ hp (Ex.new hp) upd_same⟩
end
theorem passE0 {X : Cx} : Passes (L2.CX X.prog X.w) X E0 := fun _ _ _ _ _ _ _ ⟨_, _, _, _, _, _, _, _, _, _, _, _, h⟩ => h.elim
theorem len_seqK {X : Cx} {K : PySem.W.Frag} (h : X.K = K) : CallR X (.builtin "len") (Evl.rLenS K) := by
  subst h
  exact call_len_seq
theorem sl_listK {X : Cx} {K : PySem.W.Frag} (h : X.K = K) : SlR X (rSlL K) := by
  subst h
  exact sl_list
theorem op_eqDK {X : Cx} {K : PySem.W.Frag} (hu : X.A.units + 64 < cLine) (h : X.K = K) : OpR X (compareOp .Eq) (rEqD K) := by
  subst h
  exact op_eqD hu
theorem op_notIn_seqK {X : Cx} {K : PySem.W.Frag} (h : X.K = K) : OpR X (compareOp .NotIn) (rIn K true) := by
  subst h
  exact op_notIn_seq
/-- what is never reached -/
theorem ps_never {X : Cx} {st : Stmt} : PS X st (fun _ _ _ => False) := ⟨fun _ _ _ _ _ _ h => h.elim⟩
/-- a call in a try's body -/
theorem pe_callXS {X : Cx} {nm : Str} {k : Nat} {ps : List Str} {sp : Sp} {E : L2.St → XK} {p pos : Pos} {e : Expr} {es : List Expr} {t : TA} (C : CalX X.prog X.w X.K X.mg X.base nm k ps sp) (hr : Room k X.A) (hg : Gl X nm) (hx : ∀ σ, PassesAt (L2.CX X.prog X.w) X σ (E σ)) (ha : PA X (e :: es) t)
    (hdb : (nm == ("__debug__" : Str)) = false := by decide) (he : starEach (e :: es) X.env = (false, eval e X.env) :: starEach es X.env := by rfl) (hpl : (backTo pos (starEach es X.env)).any (·.1) = false := by rfl) :
    PE X (.Call (.Name nm p) (e :: es) [] pos) (tCallS sp E t) := by
  obtain ⟨f, fd, h1, h2, h3, h4⟩ := C.out
  exact pe_callS h4 hr hg h1 h2 h3 hx ha hdb he hpl
end KQ
set_option linter.all false
set_option exponentiation.threshold 2000
/-! Integers read out of bits. -/
namespace M15
/-- bits read as an integer -/
def numB (bs : List Int) : Int := bs.foldl (fun v b => 2 * v + b) 0
theorem numB_snoc (bs : List Int) (b : Int) : numB (bs ++ [b]) = 2 * numB bs + b := by
  unfold numB
  rw [List.foldl_append]
  rfl
def Bit01 (bs : List Int) : Prop := ∀ b ∈ bs, b = 0 ∨ b = 1
/-- a reading: an integer and the place behind it, a bad word at a place, cut off -/
inductive RI where
  | ok (v : Int) (pl : Nat)
  | iw (a : Nat)
  | tr
/-- how many of the first are b -/
def lead (b : Int) : List Int → Nat
  | [] => 0
  | x :: r => if x = b then lead b r + 1 else 0
theorem lead_le (b : Int) : ∀ l : List Int, lead b l ≤ l.length
  | [] => Nat.le_refl _
  | x :: r => by
    have := lead_le b r
    unfold lead
    split
    · simp; omega
    · exact Nat.zero_le _
theorem lead_at {b : Int} : ∀ {l : List Int} {i : Nat}, i < lead b l → l[i]? = some b
  | [], i, h => absurd h (Nat.not_lt_zero i)
  | x :: r, i, h => by
    unfold lead at h
    split at h
    · rename_i e
      cases i with
      | zero => simp [e]
      | succ i => simpa using lead_at (l := r) (i := i) (by omega)
    · omega
theorem lead_no {b : Int} : ∀ {l : List Int}, l[lead b l]? ≠ some b
  | [] => by simp
  | x :: r => by
    unfold lead
    split
    · simpa using lead_no (b := b) (l := r)
    · rename_i e
      simpa using e
theorem lead_lt {b : Int} {l : List Int} {i : Nat} (h : i ≤ lead b l) (hi : l[i]? = some b) : i < lead b l := by
  rcases Nat.lt_or_eq_of_le h with z | z
  · exact z
  · rw [z] at hi
    exact absurd hi lead_no
theorem lead_eq {b : Int} {l : List Int} {i : Nat} (h : i ≤ lead b l) (hi : l[i]? ≠ some b) : lead b l = i := by
  rcases Nat.lt_or_eq_of_le h with z | z
  · exact absurd (lead_at z) hi
  · exact z.symm
theorem lead_same (b : Int) (l : List Int) : lead b (b :: l) = lead b l + 1 := by
  show (if b = b then lead b l + 1 else 0) = _
  rw [if_pos rfl]
theorem lead_rep {b : Int} : ∀ (n : Nat) (l : List Int), lead b (List.replicate n b ++ l) = n + lead b l
  | 0, l => by simp
  | n + 1, l => by
    rw [List.replicate_succ, List.cons_append, lead_same, lead_rep n l]
    omega
theorem lead_cons {b x : Int} (h : x ≠ b) (l : List Int) : lead b (x :: l) = 0 := by
  unfold lead
  rw [if_neg h]
def rdField (bs : List Int) (a w : Nat) : RI := if a + w ≤ bs.length then .ok (numB ((bs.drop a).take w)) (a + w) else .tr
def rdGamma (bs : List Int) (a : Nat) : RI := if 40 < lead 0 (bs.drop a) then .iw a else rdField bs (a + lead 0 (bs.drop a)) (lead 0 (bs.drop a) + 1)
def rdDelta (bs : List Int) (a : Nat) : RI := match rdGamma bs a with
  | .ok c p => if 40 < c then .iw a else match rdField bs p (c.toNat - 1) with
    | .ok r p2 => .ok (2 ^ (c.toNat - 1) + r) p2
    | e => e
  | e => e
def rdRice (k : Nat) (bs : List Int) (a : Nat) : RI := match rdField bs (a + lead 1 (bs.drop a)) (k + 1) with
  | .ok low p => .ok ((lead 1 (bs.drop a) : Int) * 2 ^ k + low) p
  | e => e
def fibGo : List Int → Int → Int → Int → Int → Nat → RI
  | [], _, _, _, _, _ => .tr
  | b :: r, n, t, f, p, pl => if b = 1 ∧ p = 1 then .ok n (pl + 1) else fibGo r (n + b * t) f (t + f) b (pl + 1)
def rdFib (bs : List Int) (a : Nat) : RI := fibGo (bs.drop a) 0 1 2 0 a
/-! numbers of bits -/
theorem num_from : ∀ (bs : List Int) (v : Int), Bit01 bs → ∃ x : Int, bs.foldl (fun v b => 2 * v + b) v = v * 2 ^ bs.length + x ∧ 0 ≤ x ∧ x < 2 ^ bs.length ∧ x = numB bs
  | [], v, _ => ⟨0, by simp, by decide, by simp, by simp [numB]⟩
  | b :: r, v, h => by
    have hr : Bit01 r := fun x hx => h x (by simp [hx])
    obtain ⟨x, e1, h0, h1, e2⟩ := num_from r (2 * v + b) hr
    obtain ⟨y, f1, g0, g1, f2⟩ := num_from r (2 * 0 + b) hr
    have hb := h b (by simp)
    have hp : (0 : Int) < 2 ^ r.length := Int.pow_pos (by decide)
    have e3 : numB (b :: r) = b * 2 ^ r.length + y := by
      show List.foldl _ (2 * 0 + b) r = _
      rw [f1]
      grind
    have exy : x = y := by rw [e2, f2]
    refine ⟨b * 2 ^ r.length + x, ?_, ?_, ?_, ?_⟩
    · show List.foldl _ (2 * v + b) r = _
      rw [e1, List.length_cons, Int.pow_succ]
      grind
    · rcases hb with z | z <;> rw [z] <;> omega
    · rw [List.length_cons, Int.pow_succ]
      rcases hb with z | z <;> rw [z] <;> omega
    · rw [e3, exy]
theorem num_range {bs : List Int} (h : Bit01 bs) : 0 ≤ numB bs ∧ numB bs < 2 ^ bs.length := by
  obtain ⟨x, e1, h0, h1, e2⟩ := num_from bs 0 h
  rw [← e2]
  exact ⟨h0, h1⟩
theorem num_cons {b : Int} {r : List Int} (h : Bit01 (b :: r)) : numB (b :: r) = b * 2 ^ r.length + numB r := by
  have hr : Bit01 r := fun x hx => h x (by simp [hx])
  obtain ⟨x, e1, _, _, e2⟩ := num_from r (2 * 0 + b) hr
  show List.foldl _ (2 * 0 + b) r = _
  rw [e1, e2]
  grind
theorem num_app {a b : List Int} (hb : Bit01 b) : numB (a ++ b) = numB a * 2 ^ b.length + numB b := by
  obtain ⟨x, e1, h0, h1, e2⟩ := num_from b (numB a) hb
  unfold numB at *
  rw [List.foldl_append, e1, e2]
theorem num_zero (bs : List Int) : numB (0 :: bs) = numB bs := rfl
theorem Bit01.drop {bs : List Int} (h : Bit01 bs) (n : Nat) : Bit01 (bs.drop n) := fun b hb => h b (List.mem_of_mem_drop hb)
theorem Bit01.take {bs : List Int} (h : Bit01 bs) (n : Nat) : Bit01 (bs.take n) := fun b hb => h b (List.mem_of_mem_take hb)
theorem Bit01.app {a b : List Int} (h : Bit01 a) (h2 : Bit01 b) : Bit01 (a ++ b) := fun x hx => (List.mem_append.mp hx).elim (h x) (h2 x)
theorem Bit01.at_ {bs : List Int} (h : Bit01 bs) (i : Nat) : bs.getD i 0 = 0 ∨ bs.getD i 0 = 1 := by
  rw [List.getD_eq_getElem?_getD]
  cases e : bs[i]? with
  | none => exact .inl rfl
  | some x => exact h x (List.mem_of_getElem? e)
theorem at_drop {bs : List Int} {a i : Nat} (h : a + i < bs.length) : (bs.drop a)[i]? = some (bs.getD (a + i) 0) := by
  rw [List.getElem?_drop, List.getD_eq_getElem?_getD, List.getElem?_eq_getElem h]
  rfl
theorem drop_cons {bs : List Int} {a : Nat} (h : a < bs.length) : bs.drop a = bs.getD a 0 :: bs.drop (a + 1) := by
  rw [List.drop_eq_getElem_cons h, List.getD_eq_getElem?_getD, List.getElem?_eq_getElem h]
  rfl
theorem drop_nil {bs : List Int} {a : Nat} (h : bs.length ≤ a) : bs.drop a = [] := List.drop_eq_nil_of_le h
theorem take_up {bs : List Int} {a w : Nat} (h : a + w < bs.length) : (bs.drop a).take (w + 1) = (bs.drop a).take w ++ [bs.getD (a + w) 0] := by
  have h1 : w < (bs.drop a).length := by rw [List.length_drop]; omega
  rw [← List.take_append_getElem h1]
  have := at_drop (a := a) (i := w) h
  rw [List.getElem?_eq_getElem h1] at this
  rw [Option.some.inj this]
/-! what the readings are, case by case -/
section
variable {bs : List Int} {a : Nat}
theorem lead_le_len (b : Int) (h : a ≤ bs.length) : a + lead b (bs.drop a) ≤ bs.length := by
  have := lead_le b (bs.drop a)
  rw [List.length_drop] at this
  omega
theorem gamma_tr {z : Nat} (h1 : lead 0 (bs.drop a) = z) (h2 : z ≤ 40) (h3 : ¬ a + 2 * z + 1 ≤ bs.length) : rdGamma bs a = .tr := by
  unfold rdGamma rdField
  rw [h1, if_neg (by omega), if_neg (by omega)]
theorem gamma_ok {z : Nat} (h1 : lead 0 (bs.drop a) = z) (h2 : z ≤ 40) (h3 : a + 2 * z + 1 ≤ bs.length) : rdGamma bs a = .ok (numB ((bs.drop (a + z)).take (z + 1))) (a + z + (z + 1)) := by
  unfold rdGamma rdField
  rw [h1, if_neg (by omega), if_pos (by omega)]
theorem gamma_iw (h : 40 < lead 0 (bs.drop a)) : rdGamma bs a = .iw a := by
  unfold rdGamma
  rw [if_pos h]
/-- what a gamma code tells has its bits -/
theorem gamma_val {v : Int} {p : Nat} (hb : Bit01 bs) (h : rdGamma bs a = .ok v p) : 1 ≤ v ∧ v < 2 ^ 41 ∧ p ≤ bs.length ∧ a < p := by
  unfold rdGamma rdField at h
  split at h
  · cases h
  · rename_i h1
    split at h
    · rename_i h2
      injection h with e1 e2
      generalize hz : lead 0 (bs.drop a) = z at *
      have hlt : a + z < bs.length := by omega
      have hx : (bs.drop a)[z]? = some (bs.getD (a + z) 0) := at_drop hlt
      have hn : bs.getD (a + z) 0 = 1 := by
        rcases hb.at_ (a + z) with y | y
        · exfalso
          rw [y] at hx
          rw [← hz] at hx
          exact lead_no hx
        · exact y
      have hd : (bs.drop (a + z)).take (z + 1) = 1 :: (bs.drop (a + z + 1)).take z := by
        rw [drop_cons hlt, hn, List.take_succ_cons]
      have hbt : Bit01 ((bs.drop (a + z)).take (z + 1)) := (hb.drop _).take _
      rw [hd] at hbt e1
      have hl : ((bs.drop (a + z + 1)).take z).length = z := by rw [List.length_take, List.length_drop]; omega
      have hr := num_range (fun x hx => hbt x (List.mem_cons_of_mem _ hx))
      rw [num_cons hbt, hl] at e1
      rw [hl] at hr
      have hp : (1 : Int) ≤ 2 ^ z := by
        have := Int.pow_pos (n := 2) (m := z) (by decide)
        omega
      have hm : (2 : Int) ^ z ≤ 2 ^ 40 := by
        have := Nat.pow_le_pow_right (show 0 < 2 by decide) (show z ≤ 40 by omega)
        exact_mod_cast this
      refine ⟨by omega, ?_, by omega, by omega⟩
      have : (2 : Int) ^ 41 = 2 ^ 40 + 2 ^ 40 := by decide
      omega
    · cases h
end
end M15
set_option linter.all false
set_option exponentiation.threshold 2000
/-! The codes of integers, and that their readings give the integers back. -/
namespace M14
open M15 M01
theorem bitsL_succ (x l : Nat) : bitsL x (l + 1) = bitsL (x / 2) l ++ [((x % 2 : Nat) : Int)] := by
  unfold bitsL
  rw [List.range_succ, List.map_append]
  congr 1
  · refine List.map_congr_left fun j hj => ?_
    have hj2 := List.mem_range.mp hj
    rw [Nat.div_div_eq_div_mul, show l + 1 - 1 - j = (l - 1 - j) + 1 by omega, Nat.pow_succ, Nat.mul_comm 2]
  · simp
theorem num_bits : ∀ (l x : Nat), numB (bitsL x l) = ((x % 2 ^ l : Nat) : Int)
  | 0, x => by simp [bitsL, numB, Nat.mod_one]
  | l + 1, x => by
    rw [bitsL_succ, numB_snoc, num_bits l (x / 2)]
    have h := Nat.mod_mul (a := 2) (b := 2 ^ l) (x := x)
    rw [show 2 ^ (l + 1) = 2 * 2 ^ l by rw [Nat.pow_succ, Nat.mul_comm], h]
    push_cast
    omega
theorem bits_01 (x l : Nat) : Bit01 (bitsL x l) := fun b h => by
  obtain ⟨j, _, rfl⟩ := List.mem_map.mp h
  omega
/-- the number of bits -/
def bl (n : Nat) : Nat := n.log2 + 1
theorem bl_lo {n : Nat} (h : 1 ≤ n) : 2 ^ (bl n - 1) ≤ n := by
  unfold bl
  rw [Nat.add_sub_cancel]
  exact Nat.log2_self_le (by omega)
theorem bl_hi (n : Nat) : n < 2 ^ bl n := by
  unfold bl
  exact Nat.lt_log2_self
theorem bl_le {n k : Nat} (h : 1 ≤ n) (hk : n < 2 ^ k) : bl n ≤ k := by
  unfold bl
  have := (Nat.log2_lt (show n ≠ 0 by omega)).mpr hk
  omega
theorem bl_lt {n k : Nat} (hk : 2 ^ k ≤ n) : k < bl n := by
  rcases Nat.lt_or_ge k (bl n) with h | h
  · exact h
  · have h1 := bl_hi n
    have h2 := Nat.pow_le_pow_right (show 0 < 2 by decide) h
    omega
theorem bl_iff {n k : Nat} (h : 1 ≤ n) : 2 ^ k ≤ n ↔ k < bl n := by
  refine ⟨bl_lt, fun hk => ?_⟩
  have h1 := bl_lo h
  have h2 := Nat.pow_le_pow_right (show 0 < 2 by decide) (show k ≤ bl n - 1 by omega)
  omega
theorem bitsL_cons (x l : Nat) : bitsL x (l + 1) = ((x / 2 ^ l % 2 : Nat) : Int) :: bitsL x l := by
  unfold bitsL
  rw [List.range_succ_eq_map, List.map_cons, List.map_map]
  congr 1
  refine List.map_congr_left fun j hj => ?_
  show ((x / 2 ^ (l + 1 - 1 - (j + 1)) % 2 : Nat) : Int) = _
  rw [show l + 1 - 1 - (j + 1) = l - 1 - j by omega]
theorem top_one {n : Nat} (h : 1 ≤ n) : n / 2 ^ (bl n - 1) % 2 = 1 := by
  have h1 := bl_lo h
  have h2 := bl_hi n
  have h3 : bl n = (bl n - 1) + 1 := by unfold bl; omega
  rw [h3, Nat.pow_succ] at h2
  have hp : 0 < 2 ^ (bl n - 1) := Nat.pow_pos (by decide)
  have : n / 2 ^ (bl n - 1) = 1 := by
    refine Nat.div_eq_of_lt_le ?_ ?_
    · omega
    · omega
  omega
theorem bits_top {n : Nat} (h : 1 ≤ n) : bitsL n (bl n) = 1 :: bitsL n (bl n - 1) := by
  have h3 : bl n = (bl n - 1) + 1 := by unfold bl; omega
  conv => lhs; rw [h3, bitsL_cons]
  rw [top_one h]
  rfl
def gam (n : Nat) : List Int := List.replicate (bl n - 1) 0 ++ bitsL n (bl n)
def dlt (n : Nat) : List Int := gam (bl n) ++ bitsL n (bl n - 1)
def ric (k n : Nat) : List Int := List.replicate (n / 2 ^ k) 1 ++ [0] ++ bitsL n k
/-! Fibonacci -/
def F : Nat → Nat
  | 0 => 1
  | 1 => 2
  | n + 2 => F (n + 1) + F n
theorem F_succ (n : Nat) : F (n + 1 + 1) = F (n + 1) + F n := rfl
theorem F_pos : ∀ n, 1 ≤ F n
  | 0 => Nat.le_refl _
  | 1 => by decide
  | n + 2 => by
    have := F_pos n
    rw [F_succ]
    omega
theorem F_lt : ∀ n, F n < F (n + 1)
  | 0 => by decide
  | n + 1 => by
    have := F_pos n
    rw [F_succ]
    omega
theorem F_mono {a b : Nat} (h : a ≤ b) : F a ≤ F b := by
  induction h with
  | refl => exact Nat.le_refl _
  | step _ ih => exact Nat.le_trans ih (Nat.le_of_lt (F_lt _))
/-- taking away, from the greatest on -/
def zd : Nat → Nat → List Int
  | 0, _ => []
  | i + 1, r => if F i ≤ r then 1 :: zd i (r - F i) else 0 :: zd i r
theorem zd_len : ∀ i r, (zd i r).length = i
  | 0, _ => rfl
  | i + 1, r => by
    unfold zd
    split <;> simp [zd_len i]
theorem zd_01 : ∀ i r, Bit01 (zd i r)
  | 0, _ => fun b h => absurd h List.not_mem_nil
  | i + 1, r => fun b h => by
    unfold zd at h
    split at h
    · rcases List.mem_cons.mp h with y | y
      · exact .inr y
      · exact zd_01 i _ b y
    · rcases List.mem_cons.mp h with y | y
      · exact .inl y
      · exact zd_01 i _ b y
/-- how many Fibonacci numbers are not greater than n -/
def mf (n : Nat) : Nat := ((List.range n).filter fun i => decide (F i ≤ n)).length
theorem F_ge : ∀ n, n + 1 ≤ F n
  | 0 => Nat.le_refl _
  | n + 1 => by
    have := F_ge n
    have := F_lt n
    omega
theorem exists_mf : ∀ n : Nat, 1 ≤ n → ∃ m, 1 ≤ m ∧ F (m - 1) ≤ n ∧ n < F m := fun n h => by
  have key : ∀ k, F k ≤ n ∨ ∃ m, 1 ≤ m ∧ F (m - 1) ≤ n ∧ n < F m := fun k => by
    induction k with
    | zero => exact .inl h
    | succ k ih =>
      rcases ih with y | y
      · by_cases z : F (k + 1) ≤ n
        · exact .inl z
        · exact .inr ⟨k + 1, by omega, y, by omega⟩
      · exact .inr y
  rcases key n with y | y
  · have := F_ge n
    omega
  · exact y
theorem mf_uniq {n a b : Nat} (ha : 1 ≤ a) (hb : 1 ≤ b) (h1 : F (a - 1) ≤ n) (h2 : n < F a) (h3 : F (b - 1) ≤ n) (h4 : n < F b) : a = b := by
  rcases Nat.lt_trichotomy a b with y | y | y
  · have := F_mono (show a ≤ b - 1 by omega)
    omega
  · exact y
  · have := F_mono (show b ≤ a - 1 by omega)
    omega
/-- the code, told with its number of terms -/
def fibc (m n : Nat) : List Int := (zd m n).reverse ++ [1]
def lastB : Nat → Nat → Int
  | 0, _ => 0
  | i + 1, r => if F i ≤ r then 1 else 0
theorem fib_go : ∀ (i r : Nat) (rest : List Int) (pl : Nat), r < F i → fibGo ((zd i r).reverse ++ rest) 0 1 2 0 pl = fibGo rest (r : Int) (F i : Int) (F (i + 1) : Int) (lastB i r) (pl + i)
  | 0, r, rest, pl, h => by
    have : r = 0 := by
      have : F 0 = 1 := rfl
      omega
    subst this
    rfl
  | i + 1, r, rest, pl, h => by
    unfold zd
    by_cases z : F i ≤ r
    · rw [if_pos z, List.reverse_cons, List.append_assoc]
      have hr : r - F i < F i := by
        cases i with
        | zero =>
          have h1 : F 1 = 2 := rfl
          have h0 : F 0 = 1 := rfl
          simp only [Nat.zero_add] at h
          omega
        | succ i =>
          have := F_succ i
          have := F_lt i
          omega
      rw [fib_go i (r - F i) ([1] ++ rest) pl hr]
      have hl : lastB i (r - F i) = 0 := by
        cases i with
        | zero => rfl
        | succ i =>
          have := F_succ i
          show (if F i ≤ r - F (i + 1) then (1 : Int) else 0) = 0
          rw [if_neg (by omega)]
      rw [hl]
      show (if (1 : Int) = 1 ∧ (0 : Int) = 1 then RI.ok _ _ else fibGo rest (((r - F i : Nat) : Int) + 1 * (F i : Int)) (F (i + 1) : Int) ((F i : Int) + (F (i + 1) : Int)) 1 (pl + i + 1)) = _
      rw [if_neg (by decide)]
      have e1 : ((r - F i : Nat) : Int) + 1 * (F i : Int) = (r : Int) := by omega
      have e2 : (F i : Int) + (F (i + 1) : Int) = (F (i + 1 + 1) : Int) := by
        have := F_succ i
        omega
      have e3 : lastB (i + 1) r = 1 := by
        show (if F i ≤ r then (1 : Int) else 0) = 1
        rw [if_pos z]
      rw [e1, e2, e3]
      rfl
    · rw [if_neg z, List.reverse_cons, List.append_assoc, fib_go i r ([0] ++ rest) pl (by omega)]
      show (if (0 : Int) = 1 ∧ lastB i r = 1 then RI.ok _ _ else fibGo rest ((r : Int) + 0 * (F i : Int)) (F (i + 1) : Int) ((F i : Int) + (F (i + 1) : Int)) 0 (pl + i + 1)) = _
      rw [if_neg (fun y => absurd y.1 (by decide))]
      have e1 : (r : Int) + 0 * (F i : Int) = (r : Int) := by omega
      have e2 : (F i : Int) + (F (i + 1) : Int) = (F (i + 1 + 1) : Int) := by
        have := F_succ i
        omega
      have e3 : lastB (i + 1) r = 0 := by
        show (if F i ≤ r then (1 : Int) else 0) = 0
        rw [if_neg z]
      rw [e1, e2, e3]
      rfl
/-! the readings of codes -/
theorem field_at {bs xs rest : List Int} {a w : Nat} (h : bs.drop a = xs ++ rest) (hw : xs.length = w) (ha : a ≤ bs.length) : rdField bs a w = .ok (numB xs) (a + w) := by
  have hl : (bs.drop a).length = xs.length + rest.length := by rw [h, List.length_append]
  rw [List.length_drop] at hl
  unfold rdField
  rw [if_pos (by omega), h, ← hw, List.take_left]
theorem drop_more {bs xs ys rest : List Int} {a z : Nat} (h : bs.drop a = xs ++ ys ++ rest) (hz : xs.length = z) : bs.drop (a + z) = ys ++ rest := by
  rw [← List.drop_drop, h, List.append_assoc, ← hz, List.drop_left]
theorem gamma_at {bs rest : List Int} {a n : Nat} (hn : 1 ≤ n) (hn2 : n < 2 ^ 41) (h : bs.drop a = gam n ++ rest) (ha : a ≤ bs.length) : rdGamma bs a = .ok (n : Int) (a + (gam n).length) := by
  have hb := bl_le hn hn2
  have hl : lead 0 (bs.drop a) = bl n - 1 := by
    rw [h]
    unfold gam
    rw [List.append_assoc, lead_rep, bits_top hn, List.cons_append, lead_cons (by decide)]
    omega
  have hlen : (gam n).length = (bl n - 1) + bl n := by
    unfold gam
    rw [List.length_append, List.length_replicate, bits_len]
  have hdl : (bs.drop a).length = (gam n).length + rest.length := by rw [h, List.length_append]
  rw [List.length_drop] at hdl
  have h1 : 1 ≤ bl n := by unfold bl; omega
  unfold rdGamma
  rw [hl, if_neg (by omega), field_at (xs := bitsL n (bl n)) (rest := rest) (drop_more (xs := List.replicate (bl n - 1) 0) h (by rw [List.length_replicate])) (by rw [bits_len]; omega) (by omega), num_bits, Nat.mod_eq_of_lt (bl_hi n), hlen]
  congr 1
  omega
theorem num_tail {n : Nat} (hn : 1 ≤ n) : numB (bitsL n (bl n - 1)) + 2 ^ (bl n - 1) = (n : Int) := by
  have h1 := num_bits (bl n) n
  rw [bits_top hn, num_cons (by rw [← bits_top hn]; exact bits_01 _ _), bits_len, Nat.mod_eq_of_lt (bl_hi n)] at h1
  omega
theorem delta_at {bs rest : List Int} {a n : Nat} (hn : 1 ≤ n) (hn2 : n < 2 ^ 40) (h : bs.drop a = dlt n ++ rest) (ha : a ≤ bs.length) : rdDelta bs a = .ok (n : Int) (a + (dlt n).length) := by
  have hb := bl_le hn hn2
  have h1 : 1 ≤ bl n := by unfold bl; omega
  unfold dlt at h ⊢
  have hdl : (bs.drop a).length = (gam (bl n)).length + (bitsL n (bl n - 1)).length + rest.length := by rw [h, List.length_append, List.length_append]
  rw [List.length_drop] at hdl
  unfold rdDelta
  rw [gamma_at (rest := bitsL n (bl n - 1) ++ rest) h1 (by omega) (by rw [h, List.append_assoc]) ha]
  simp only
  rw [if_neg (by omega), Int.toNat_natCast, field_at (xs := bitsL n (bl n - 1)) (rest := rest) (drop_more h rfl) (bits_len _ _) (by omega)]
  simp only
  have := num_tail hn
  rw [List.length_append, bits_len]
  congr 1
  · omega
  · omega
theorem rice_at {bs rest : List Int} {a k n : Nat} (h : bs.drop a = ric k n ++ rest) (ha : a ≤ bs.length) : rdRice k bs a = .ok (n : Int) (a + (ric k n).length) := by
  have hl : lead 1 (bs.drop a) = n / 2 ^ k := by
    rw [h]
    unfold ric
    rw [List.append_assoc, List.append_assoc, lead_rep, List.cons_append, lead_cons (by decide)]
    omega
  unfold ric at h ⊢
  have hdl : (bs.drop a).length = (List.replicate (n / 2 ^ k) (1 : Int)).length + 1 + (bitsL n k).length + rest.length := by rw [h, List.length_append, List.length_append, List.length_append]; rfl
  rw [List.length_drop] at hdl
  unfold rdRice
  rw [hl, field_at (xs := 0 :: bitsL n k) (rest := rest) (drop_more (xs := List.replicate (n / 2 ^ k) 1) (by rw [h, List.append_assoc (List.replicate _ _)]; rfl) (by rw [List.length_replicate])) (by rw [List.length_cons, bits_len]) (by rw [List.length_replicate] at hdl; omega), num_zero, num_bits]
  simp only
  have h1 := Nat.div_add_mod n (2 ^ k)
  rw [List.length_append, List.length_append, List.length_replicate, bits_len]
  congr 1
  · have : ((2 ^ k * (n / 2 ^ k) + n % 2 ^ k : Nat) : Int) = (n : Int) := by rw [h1]
    push_cast at this
    push_cast
    rw [Int.mul_comm]
    exact this
  · rw [List.length_singleton]
    omega
theorem fib_at {bs rest : List Int} {a m n : Nat} (hm : 1 ≤ m) (h1 : F (m - 1) ≤ n) (h2 : n < F m) (h : bs.drop a = fibc m n ++ rest) : rdFib bs a = .ok (n : Int) (a + (fibc m n).length) := by
  unfold rdFib
  rw [h]
  unfold fibc
  rw [List.append_assoc, fib_go m n ([1] ++ rest) a h2]
  have hl : lastB m n = 1 := by
    match m, hm, h1 with
    | m + 1, _, h1 =>
      have h1' : F m ≤ n := h1
      show (if F m ≤ n then (1 : Int) else 0) = 1
      rw [if_pos h1']
  rw [hl]
  show (if (1 : Int) = 1 ∧ (1 : Int) = 1 then RI.ok (n : Int) (a + m + 1) else _) = _
  rw [if_pos ⟨rfl, rfl⟩, List.length_append, List.length_reverse, zd_len]
  rfl
/-- a code that begins another one is its code -/
theorem pre_same {rd : List Int → Nat → RI} {c : Nat → List Int} {ok : Nat → Prop} (h : ∀ (n : Nat) (rest : List Int), ok n → rd (c n ++ rest) 0 = .ok (n : Int) (0 + (c n).length)) {n m : Nat} (hn : ok n) (hm : ok m) : (c m).take (c n).length = c n ↔ n = m := by
  constructor
  · intro e
    have h1 := h n ((c m).drop (c n).length) hn
    rw [← e] at h1
    rw [show ((c m).take (c n).length) ++ (c m).drop ((c m).take (c n).length).length = c m from by
      rw [e]
      conv => lhs; lhs; rw [← e]
      exact List.take_append_drop _ _] at h1
    have h2 := h m [] hm
    rw [List.append_nil, h1] at h2
    injection h2 with e1 _
    omega
  · intro e
    rw [e, List.take_of_length_le (Nat.le_refl _)]
end M14
set_option Elab.async false
set_option linter.all false
set_option maxRecDepth 100000
set_option maxHeartbeats 4000000
set_option exponentiation.threshold 20000
namespace K16
open PySem PySem.Spec PyProof.Rows L2 StX GX KC KQ Evl M08 M09 M01 M14 M15
section
variable {P : Program} {w : World} {K : PySem.W.Frag} {mg : Str → Option Value} {base : Heap} {Cl : Nat → Addr} {σ : L2.St} {H H' : Hp} {ta tb te : TE}
theorem el_bits {E : XK} {x l : Nat} {y : Int} (h1 : Ev ta σ H (.int (x : Int))) (h2 : Ev tb σ H (.int y)) (e : y = (l : Int)) (hl : l ≤ 9000) : EvL (tCall spBits [] E (tCons ta (tCons tb tNil))) σ H ((bitsL x l).map V.int) := by
  subst e
  exact el_call (vs := [.int (x : Int), .int (l : Int)]) (ea2 h1 h2) fun H1 e1 Q q E => ⟨x, l, rfl, by omega, q⟩
theorem bits_bl {n : Nat} (h : 1 ≤ n) : Builtin.Int.intBits (n : Int) = bl n := by
  unfold Builtin.Int.intBits bl
  rw [Int.natAbs_natCast, if_neg (by simp; omega)]
theorem flat_one (v : V) : ∀ n : Nat, (List.replicate n [v]).flatten = List.replicate n v
  | 0 => rfl
  | n + 1 => by
    rw [List.replicate_succ, List.flatten_cons, flat_one v n, List.replicate_succ]
    rfl
theorem el_rep1 {v : V} {i : Int} {n : Nat} (ha : EvL ta σ H [v]) (hb : Ev tb σ H (.int i)) (e : i = (n : Int)) (h : n ≤ 10000) : EvL (tOp rRep ta tb) σ H (List.replicate n v) := by
  have := el_rep ha hb (by omega) (by show 1 ≤ 10; decide)
  rw [e, Int.toNat_natCast, flat_one] at this
  exact this
def spN (c : Nat → List Int) (ok : Nat → Prop) : Sp := fun vs H Q _ => ∃ n : Nat, vs = [.int (n : Int)] ∧ 1 ≤ n ∧ n < 2 ^ 100 ∧ ok n ∧ RetL ((c n).map V.int) H Q
theorem el_n {c : Nat → List Int} {ok : Nat → Prop} {E : XK} {n : Nat} (h1 : Ev ta σ H (.int (n : Int))) (h : 1 ≤ n) (h2 : n < 2 ^ 100) (h3 : ok n) : EvL (tCall (spN c ok) [] E (tCons ta tNil)) σ H ((c n).map V.int) :=
  el_call (vs := [.int (n : Int)]) (ea1 h1) fun H1 e1 Q q E => ⟨n, rfl, h, h2, h3, q⟩
theorem gam_len (n : Nat) : (gam n).length = bl n - 1 + bl n := by
  unfold gam
  rw [List.length_append, List.length_replicate, bits_len]
theorem ok_gamma_bits {f : Addr} {fd : FuncData} {k : Nat} (F : Fun K "gamma_bits" "gamma_bits" s_gamma_bits f fd) (B : Bs mg) (C_field_bits : Cal P w K mg base "field_bits" 1 ["number", "width"] spBits) : FnOk P w K mg base CX0 (k + 2) f fd ["n"] (spN gam fun _ => True) := by
  refine F.ok sc_gamma_bits (fun vs H Q E h => ?_) (fun cdv A outer s H vs Q E hr h => ?_)
  · obtain ⟨n, rfl, _⟩ := h
    rfl
  · obtain ⟨n, rfl, h1, h2, _, q⟩ := h
    refine ⟨_, (pss_cons (ps_set (i := 1) sc_gamma_bits.nd rfl (Or.inl rfl) (pe_bits (pv 0)))
      (pss_one (ps_ret (pe_op op_cat (pe_op op_rep (pe_lst (pa_cons pe_int pa_nil)) (pe_op op_sub (pv 1) pe_int)) (pe_callC C_field_bits (hr.mono (by omega)) (by rfl) (pa_cons (pv 0) (pa_cons (pv 1) pa_nil))))))), ?_⟩
    have hb := bl_le h1 h2
    have hb1 : 1 ≤ bl n := by unfold bl; omega
    refine q_asg (v := .int (bl n : Int)) (ev_is (ev_bits (ev_var rfl)) (by rw [bits_bl h1])) fun H1 e1 => ?_
    refine s_retL (xs := (gam n).map V.int) ?_ fun p H2 np e2 h2 => q p H2 (fresh_back e1 np) (e1.trans e2) h2
    unfold gam
    rw [List.map_append, List.map_replicate]
    exact el_catLL (el_rep1 (el_lst (ea1 ev_c) (by show 1 ≤ 100000; decide)) (ev_sub (ev_var (v := .int (bl n : Int)) rfl) ev_c) (by omega) (by omega)) (el_bits (ev_var rfl) (ev_var rfl) rfl (by omega)) (by rw [List.length_replicate, List.length_map, bits_len]; omega)
end
end K16
set_option Elab.async false
set_option linter.all false
set_option maxRecDepth 100000
set_option maxHeartbeats 4000000
set_option exponentiation.threshold 20000
namespace K16
open PySem PySem.Spec PyProof.Rows L2 StX GX KC KQ Evl M08 M09 M01 M14 M15
/-- how often each symbol occurs -/
def cntL (n : Nat) (bs : List Nat) : List Int := (List.range n).map fun k => ((bs.filter fun s => decide (s = k)).length : Int)
theorem cnt_len (n : Nat) (bs : List Nat) : (cntL n bs).length = n := by simp [cntL]
theorem cnt_snoc {n : Nat} (bs : List Nat) {s : Nat} (hs : s < n) : cntL n (bs ++ [s]) = (cntL n bs).set s ((cntL n bs).getD s 0 + 1) := by
  have hg : ∀ {bs : List Nat} {k : Nat} (h : k < n), (cntL n bs).getD k 0 = ((bs.filter fun s => decide (s = k)).length : Int) := fun {bs k} h => by
    unfold cntL
    rw [List.getD_eq_getElem?_getD, List.getElem?_map, List.getElem?_range h]
    rfl
  refine List.ext_getElem (by rw [List.length_set, cnt_len, cnt_len]) fun k h1 h2 => ?_
  rw [cnt_len] at h1
  have e1 : (cntL n (bs ++ [s]))[k] = ((bs ++ [s]).filter fun t => decide (t = k)).length := by simp [cntL]
  have e2 : (cntL n bs)[k]'(by rw [cnt_len]; exact h1) = ((bs.filter fun t => decide (t = k)).length : Int) := by simp [cntL]
  rw [e1, List.getElem_set]
  by_cases z : s = k
  · subst z
    rw [if_pos rfl, hg hs, List.filter_append, List.length_append]
    simp
  · rw [if_neg z, e2, List.filter_append, List.length_append]
    simp [z]
section
variable {P : Program} {w : World} {K : PySem.W.Frag} {mg : Str → Option Value} {base : Heap} {Cl : Nat → Addr} {σ : L2.St} {H H' : Hp} {ta tb te : TE}
abbrev natsV (bs : List Nat) : List V := bs.map fun (s : Nat) => V.int (s : Int)
def spWidth : Sp := fun vs H Q _ => ∃ n : Nat, vs = [.int (n : Int)] ∧ 2 ≤ n ∧ RetV (.int (bl (n - 1) : Nat)) H Q
theorem ok_symbol_width {f : Addr} {fd : FuncData} {k : Nat} (F : Fun K "symbol_width" "symbol_width" s_symbol_width f fd) (B : Bs mg) : FnOk P w K mg base CX0 (k + 1) f fd ["size"] spWidth := by
  refine F.ok sc_symbol_width (fun vs H Q E h => ?_) (fun cdv A outer s H vs Q E hr h => ?_)
  · obtain ⟨n, rfl, _⟩ := h
    rfl
  · obtain ⟨n, rfl, hn, q⟩ := h
    refine ⟨_, (pss_one (ps_ret (pe_bits (pe_op op_sub (pv 0) pe_int)))), ?_⟩
    exact s_ret (ev_is (ev_bits (i := ((n - 1 : Nat) : Int)) (ev_is (ev_sub (ev_var rfl) ev_c) (by congr 1; omega))) (by rw [bits_bl (by omega)])) fun H1 e1 => q H1 e1
def spCounts (K : PySem.W.Frag) : Sp := fun vs H Q _ => ∃ (l : Addr) (n : Nat) (bs : List Nat), vs = [.int (n : Int), .ref l] ∧ n ≤ 64 ∧ SqL K H l (natsV bs) ∧ (∀ s ∈ bs, s < n) ∧ RetL ((cntL n bs).map V.int) H Q
theorem ok_block_counts {f : Addr} {fd : FuncData} {k : Nat} (F : Fun K "block_counts" "block_counts" s_block_counts f fd) (B : Bs mg) : FnOk P w K mg base CX0 (k + 1) f fd ["size", "block"] (spCounts K) := by
  refine F.ok sc_block_counts (fun vs H Q E h => ?_) (fun cdv A outer s H vs Q E hr h => ?_)
  · obtain ⟨l, n, bs, rfl, _⟩ := h
    rfl
  · obtain ⟨l, n, bs, rfl, hn, hs, hb, q⟩ := h
    refine ⟨_, (pss_cons (ps_set (i := 2) sc_block_counts.nd rfl (Or.inl rfl) (pe_op op_rep (pe_lst (pa_cons pe_int pa_nil)) (pv 0)))
      (pss_cons (ps_for PassesOwn.never rfl (pi_list (pv 1)) (pg_name (i := 3) sc_block_counts.nd rfl (Or.inl rfl)) (pss_one (ps_augS (pv 2) (pv 3) get_list pe_int ip_add set_list)))
      (pss_one (ps_ret (pv 2))))), ?_⟩
    have h0 : List.replicate n (V.int 0) = (cntL n []).map V.int := by
      unfold cntL
      refine List.ext_getElem (by simp) fun i h1 h2 => ?_
      simp
    refine q_asgL (el_rep1 (el_lst (ea1 ev_c) (by decide)) (ev_var rfl) rfl (by omega)) fun p H1 hp e1 h1 => ?_
    rw [h0] at h1
    refine q_forLn (ev_var rfl) (ex_l e1 hs) (fun i σ' H' => ∃ x, σ' = [some (.int (n : Int)), some (.ref l), some (.ref p), x] ∧ Ex H H' ∧ H' p = some (.lst ((cntL n (bs.take i)).map V.int))) (fun H2 e2 => ⟨none, rfl, e1.trans e2, e2 _ _ h1⟩) (fun i σ' H' _ ⟨_, _, e, _⟩ => ex_l e hs) ?_ ?_
    · rintro i v σ' H' hv ⟨x, rfl, ex, hl⟩
      have hil : i < bs.length := by
        have := (List.getElem?_eq_some_iff.mp hv).1
        rwa [List.length_map] at this
      rw [List.getElem?_map, List.getElem?_eq_getElem hil] at hv
      obtain rfl := Option.some.inj hv
      have hmem := hb _ (List.getElem_mem hil)
      have htk : bs.take (i + 1) = bs.take i ++ [bs[i]] := (List.take_append_getElem hil).symm
      generalize bs[i] = sy at hmem htk
      refine s_augS (s := sy) (p := (cntL n (bs.take i)).getD sy 0) (q := 1) hl (ev_var rfl) (ev_var rfl) (int_at (by rw [cnt_len]; exact hmem)) ev_c fun H3 e3 => ⟨_, rfl, Ex.mut (ex.trans e3) hp, ?_⟩
      rw [upd_same, htk, cnt_snoc _ hmem, List.map_set]
    · rintro σ' H' ⟨x, rfl, ex, hl⟩
      rw [List.length_map, List.take_length] at hl
      exact s_ret (ev_var rfl) fun H2 e2 => q p H2 hp (ex.trans e2) (e2 _ _ hl)
end
end K16
set_option Elab.async false
set_option linter.all false
set_option maxRecDepth 100000
set_option maxHeartbeats 4000000
set_option exponentiation.threshold 20000
namespace K16
open PySem PySem.Spec PyProof.Rows L2 StX GX KC KQ Evl M08 M09 M10 M01 M14 M15
def codeOf (t : T3) (e : Nat) : List Int := bitsL (firstN t (codeC t e)).toNat (codeC t e)
theorem lst_uniq {t : T3} {a b : Nat} (ha : Lst t a) (hb : Lst t b) : a = b := by
  rcases Nat.lt_trichotomy a b with z | z | z
  · have := hb.2 a z
    have := ha.1
    omega
  · exact z
  · have := ha.2 b z
    have := hb.1
    omega
open Classical in
/-- the code of a message, for a model as it begins -/
noncomputable def encW (m : Md) (msg : List Nat) : List Int := if h : ∃ e, Lst (itv m msg t0) e ∧ e ≤ 4000 then codeOf (itv m msg t0) h.choose else []
theorem encW_eq {m : Md} {msg : List Nat} {e : Nat} (h : Lst (itv m msg t0) e) (he : e ≤ 4000) : encW m msg = codeOf (itv m msg t0) e := by
  have hx : ∃ e, Lst (itv m msg t0) e ∧ e ≤ 4000 := ⟨e, h, he⟩
  unfold encW
  rw [dif_pos hx, lst_uniq hx.choose_spec.1 h]
open Classical in
theorem encW_len (m : Md) (msg : List Nat) : (encW m msg).length ≤ 4001 := by
  unfold encW
  by_cases hx : ∃ e, Lst (itv m msg t0) e ∧ e ≤ 4000
  · rw [dif_pos hx]
    have := code_len (itv m msg t0) hx.choose
    have := hx.choose_spec.2
    unfold codeOf
    rw [bits_len]
    omega
  · rw [dif_neg hx]
    exact Nat.zero_le _
theorem bit_cast (n m : Nat) : ((n / 2 ^ m % 2 : Nat) : Int) = (n : Int) / 2 ^ m % 2 := by
  push_cast
  rfl
theorem bitsV (n l : Nat) : (bitsL n l).map V.int = (List.range l).map fun j => V.int ((n : Int) / 2 ^ (l - 1 - j) % 2) := by
  unfold bitsL
  rw [List.map_map]
  refine List.map_congr_left fun j _ => ?_
  show V.int ((n / 2 ^ (l - 1 - j) % 2 : Nat) : Int) = _
  rw [bit_cast]
theorem repV (n : Nat) (x : Int) : (List.replicate n x).map V.int = (List.range n).map fun _ => V.int x := by
  refine List.ext_getElem (by simp) fun i h1 h2 => by simp
section
variable {P : Program} {w : World} {K : PySem.W.Frag} {mg : Str → Option Value} {base : Heap} {Cl : Nat → Addr} {σ : L2.St} {H H' : Hp} {ta tb te : TE}
theorem el_enc {t : TA} {p l : Addr} {m : Md} {F : Addr → Prop} {n : Nat} {msg : List Nat} {E : XK} (hm : MAt Cl H p m F) (hok : Ok n m) (hg : Good n m.fresh) (hs : SqL K H l (natsV msg)) (hl : msg.length ≤ 300) (hmsg : Msg n m.fresh msg) (ha : EvA t σ H [.ref p, .ref l]) : EvL (tCall (spEncode K Cl) [] E t) σ H ((encW m.fresh msg).map V.int) :=
  el_call ha fun H1 e1 Q q E => ⟨p, l, m, F, n, msg, rfl, hm.ext e1, hok, hg, ex_l e1 hs, hl, hmsg, fun e he h4 p H2 hp e2 h2 => q p H2 hp e2 (by rw [encW_eq he h4]; exact h2)⟩
noncomputable def mbL (m : Md) (msg : List Nat) : List Int := gam ((encW m msg).length + 1) ++ encW m msg
def spMB (K : PySem.W.Frag) (Cl : Nat → Addr) : Sp := fun vs H Q _ => ∃ (p l : Addr) (m : Md) (F : Addr → Prop) (n : Nat) (msg : List Nat), vs = [.ref p, .ref l] ∧ MAt Cl H p m F ∧ Ok n m ∧ Good n m.fresh ∧ SqL K H l (natsV msg) ∧ msg.length ≤ 300 ∧ Msg n m.fresh msg ∧ RetL ((mbL m.fresh msg).map V.int) H Q
theorem ok_model_bits {f : Addr} {fd : FuncData} {k : Nat} (Fn : Fun K "model_bits" "model_bits" s_model_bits f fd) (B : Bs mg) (C_encode_message : Cal P w K mg base "encode_message" 7 ["model", "message"] (spEncode K Cl)) (C_gamma_bits : Cal P w K mg base "gamma_bits" 2 ["n"] (spN gam fun _ => True)) : FnOk P w K mg base CX0 (k + 8) f fd ["model", "block"] (spMB K Cl) := by
  refine Fn.ok sc_model_bits (fun vs H Q E h => ?_) (fun cdv A outer s H vs Q E hr h => ?_)
  · obtain ⟨p, l, m, F, n, msg, rfl, _⟩ := h
    rfl
  · obtain ⟨p, l, m, F, n, msg, rfl, hm, hok, hg, hs, hl, hmsg, q⟩ := h
    refine ⟨_, (pss_cons (ps_set (i := 2) sc_model_bits.nd rfl (Or.inl rfl) (pe_callC C_encode_message (hr.mono (by omega)) (by rfl) (pa_cons (pv 0) (pa_cons (pv 1) pa_nil))))
      (pss_one (ps_ret (pe_op op_cat (pe_callC C_gamma_bits (hr.mono (by omega)) (by rfl) (pa_cons (pe_op op_add (pe_callB call_len_seq (by rfl) B.len PySem.boot_len (pa_cons (pv 2) pa_nil)) pe_int) pa_nil)) (pv 2))))), ?_⟩
    have hel := encW_len m.fresh msg
    refine q_asgL (el_enc hm hok hg hs hl hmsg (ea2 (ev_var rfl) (ev_var rfl))) fun pc H1 hpc e1 h1 => ?_
    have hgl : (gam ((encW m.fresh msg).length + 1)).length ≤ 30 := by
      rw [gam_len]
      have : bl ((encW m.fresh msg).length + 1) ≤ 13 := bl_le (by omega) (by omega)
      omega
    refine s_retL (xs := (mbL m.fresh msg).map V.int) ?_ fun p2 H2 hp2 e2 h2 => q p2 H2 (fresh_back e1 hp2) (e1.trans e2) h2
    unfold mbL
    rw [List.map_append]
    exact el_cat (el_n (n := (encW m.fresh msg).length + 1) (ev_is (ev_add (ev_len (ev_var rfl) (sq_of h1)) ev_c) (by rw [List.length_map]; congr 1)) (by omega) (by omega) trivial) (ev_var rfl) h1 (by rw [List.length_map, List.length_map]; omega)
def spLWidth : Sp := fun vs H Q _ => ∃ n : Nat, vs = [.int (n : Int)] ∧ 2 ≤ n ∧ n ≤ 16 ∧ RetV (.int (bl (n - 1) : Nat)) H Q
theorem ok_law_width {f : Addr} {fd : FuncData} {k : Nat} (F : Fun K "_law_width" "_law_width" s_law_width f fd) (B : Bs mg) : FnOk P w K mg base CX0 (k + 1) f fd ["size"] spLWidth := by
  refine F.ok sc_law_width (fun vs H Q E h => ?_) (fun cdv A outer s H vs Q E hr h => ?_)
  · obtain ⟨n, rfl, _⟩ := h
    rfl
  · obtain ⟨n, rfl, hn, hn2, q⟩ := h
    refine ⟨_, (pss_cons (ps_set (i := 1) sc_law_width.nd rfl (Or.inl rfl) pe_int)
      (pss_cons (ps_for PassesOwn.never rfl (pi_range1 (by rfl) B.range (pa_cons pe_int pa_nil)) (pg_name (i := 2) sc_law_width.nd rfl (Or.inl rfl)) (pss_one (ps_if (pt_cmpR op_lt (pe_op op_shl pe_int (pv 1)) (pv 0) (nomark _)) (pss_one (ps_set (i := 1) sc_law_width.nd rfl (Or.inl rfl) (pe_op op_add (pv 1) pe_int))) pss_nil)))
      (pss_one (ps_ret (pv 1))))), ?_⟩
    have hb : bl (n - 1) ≤ 4 := bl_le (by omega) (by omega)
    refine q_asg (v := .int 0) ev_c fun H1 e1 => ?_
    refine q_forR1 (n := 5) (ea1 ev_c) ⟨by decide, by decide⟩ (fun i σ' H' => ∃ x, σ' = [some (.int (n : Int)), some (.int ((min i (bl (n - 1)) : Nat) : Int)), x] ∧ Ex H H') (fun H2 e2 => ⟨none, by rw [Nat.zero_min]; rfl, e1.trans e2⟩) ?_ ?_
    · rintro i σ' H' hi ⟨x, rfl, ex⟩
      obtain ⟨c, hc⟩ : ∃ c, c = min i (bl (n - 1)) := ⟨_, rfl⟩
      rw [← hc]
      refine s_when (b := decide (c < bl (n - 1))) (et_is (et_test (ev_lt (ev_shl1 (m := c) (ev_var rfl) rfl (by omega)) (ev_var (v := .int (n : Int)) rfl))) (decide_eq_decide.mpr ?_)) (fun hb2 H2 e2 => ?_) (fun hb2 H2 e2 => ?_)
      · rw [← bl_iff (show 1 ≤ n - 1 by omega)]
        have e : ((2 : Int) ^ c) = ((2 ^ c : Nat) : Int) := by push_cast; rfl
        rw [e]
        omega
      · have hlt := of_decide_eq_true hb2
        refine s_asg (v := .int ((c + 1 : Nat) : Int)) (ev_is (ev_add (ev_var (v := .int (c : Int)) rfl) ev_c) (by congr 1)) fun H3 e3 => ⟨some (.int (i : Int)), ?_, (ex.trans e2).trans e3⟩
        have : min (i + 1) (bl (n - 1)) = c + 1 := by omega
        rw [this]
        rfl
      · have hge := of_decide_eq_false hb2
        refine ⟨some (.int (i : Int)), ?_, ex.trans e2⟩
        have : min (i + 1) (bl (n - 1)) = c := by omega
        rw [this]
        rfl
    · rintro σ' H' ⟨x, rfl, ex⟩
      have e5 : ((5 : Int)).toNat = 5 := rfl
      rw [e5, Nat.min_eq_right (by omega)]
      exact s_ret (ev_var rfl) fun H2 e2 => q H2 (ex.trans e2)
end
end K16
set_option Elab.async false
set_option linter.all false
set_option maxRecDepth 100000
set_option maxHeartbeats 4000000
/-! [y for x in xs for y in f(x)], where f makes a new list of ints. -/
namespace KW
open PySem PySem.Spec PyProof.Rows L2 StX GX KC KQ Evl
section
variable {K : PySem.W.Frag} {σ : L2.St} {H : Hp} {tl ti : TE}
theorem el_lc2F {l : Addr} {j j1 : Nat} {vs vs1 : List Nat} {xs : List Int} (f : Int → List Int) (h : Ev tl σ H (.ref l)) (hx : SqL K H l (xs.map L2.V.int)) (hn : (xs.flatMap f).length ≤ 40000)
    (hw1 : ∀ x, wipe ((wipe σ vs).set j (some x)) vs = wipe σ vs) (hw2 : ∀ x y, wipe ((wipe ((wipe σ vs).set j (some x)) vs1).set j1 (some y)) vs1 = wipe ((wipe σ vs).set j (some x)) vs1)
    (hv : ∀ x y, ((wipe ((wipe σ vs).set j (some x)) vs1).set j1 (some y))[j1]? = some (some y)) (he : ∀ x ∈ xs, ∀ H1, Ex H H1 → EvL ti ((wipe σ vs).set j (some (.int x))) H1 ((f x).map L2.V.int)) :
    EvL (tLc2 (iList K tl) (gName j) tYes (iList K ti) (gName j1) tYes (tVar j1) vs vs1) σ H ((xs.flatMap f).map L2.V.int) := fun H0 e Q q => h H0 e _ fun Ht e1 => by
  have et := e.trans e1
  have hx' := ex_l et hx
  refine ⟨l, rfl, ⟨_, hx'⟩, fun D hD => ⟨fun i m H' => m + i = xs.length ∧ Ex Ht H' ∧ H' D = some (.lst (((xs.take i).flatMap f).map L2.V.int)), ⟨xs.length, by omega, Ex.new hD, upd_same⟩, ?_⟩⟩
  rintro i m H' ⟨hm, e3, hl⟩
  by_cases hi : i < xs.length
  · right
    have hat : (xs.map L2.V.int)[i]? = some (.int xs[i]) := by rw [List.getElem?_map, List.getElem?_eq_getElem hi]; rfl
    have htk : xs.take (i + 1) = xs.take i ++ [xs[i]] := (List.take_append_getElem hi).symm
    have hmem : xs[i] ∈ xs := List.getElem_mem hi
    have hsub : ((xs.take i).flatMap f).length + (f xs[i]).length ≤ 40000 := by
      have e : xs.flatMap f = (xs.take (i + 1)).flatMap f ++ (xs.drop (i + 1)).flatMap f := by rw [← List.flatMap_append, List.take_append_drop]
      rw [e, List.length_append, htk, List.flatMap_append, List.length_append] at hn
      simp only [List.flatMap_cons, List.flatMap_nil, List.append_nil] at hn
      omega
    generalize xs[i] = x0 at hat htk hmem hsub
    refine ⟨⟨_, _, ex_l e3 hx', hat⟩, fun H' => (m - 1) + (i + 1) = xs.length ∧ Ex Ht H' ∧ H' D = some (.lst (((xs.take (i + 1)).flatMap f).map L2.V.int)), fun H' q => ⟨m - 1, by omega, q⟩, ?_⟩
    rintro x H5 ⟨rfl, hxx⟩
    have ex1 := (Option.some.inj (hat.symm.trans (hxx _ (ex_l e3 hx')))).symm
    subst ex1
    refine ⟨hw1 _, tt_yes (he x0 hmem H5 (et.trans e3) H5 (Ex.refl _) _ fun r H6 hr e6 hrl => ?_)⟩
    have hrD : r ≠ D := fun z => by rw [z, hl] at hr; cases hr
    refine ⟨r, rfl, ⟨_, sq_of hrl⟩, fun j' k H' => k + j' = (f x0).length ∧ Ex Ht H' ∧ H' D = some (.lst (((xs.take i).flatMap f ++ (f x0).take j').map L2.V.int)) ∧ H' r = some (.lst ((f x0).map L2.V.int)), ⟨(f x0).length, by omega, e3.trans e6, by rw [List.take_zero, List.append_nil]; exact e6 _ _ hl, hrl⟩, ?_⟩
    rintro j' kk H7 ⟨hkk, e7, hl7, hr7⟩
    by_cases hj : j' < (f x0).length
    · right
      have hat2 : ((f x0).map L2.V.int)[j']? = some (.int (f x0)[j']) := by rw [List.getElem?_map, List.getElem?_eq_getElem hj]; rfl
      have htj : (f x0).take (j' + 1) = (f x0).take j' ++ [(f x0)[j']] := (List.take_append_getElem hj).symm
      refine ⟨⟨_, _, sq_of hr7, hat2⟩, fun H' => (kk - 1) + (j' + 1) = (f x0).length ∧ Ex Ht H' ∧ H' D = some (.lst (((xs.take i).flatMap f ++ (f x0).take (j' + 1)).map L2.V.int)) ∧ H' r = some (.lst ((f x0).map L2.V.int)), fun H' q => ⟨kk - 1, by omega, q⟩, ?_⟩
      rintro y H8 ⟨rfl, hxy⟩
      have ex2 := (Option.some.inj (hat2.symm.trans (hxy _ (sq_of hr7)))).symm
      subst ex2
      refine ⟨hw2 _ _, tt_yes ⟨_, hv _ _, _, hl7, sz_lt (by rw [List.length_map, List.length_append, List.length_take]; omega), by omega, Ex.mut e7 hD, ?_, by rw [upd_ne hrD]; exact hr7⟩⟩
      rw [upd_same, htj, ← List.append_assoc, List.map_append (l₁ := (xs.take i).flatMap f ++ (f x0).take j')]
      rfl
    · left
      have hjw : j' = (f x0).length := by omega
      subst hjw
      refine ⟨⟨_, sq_of hr7, by rw [List.length_map]; exact Nat.le_refl _⟩, by omega, e7, ?_⟩
      rw [List.take_length] at hl7
      rw [htk, List.flatMap_append]
      simp only [List.flatMap_cons, List.flatMap_nil, List.append_nil]
      exact hl7
  · left
    have hin : i = xs.length := by omega
    subst hin
    rw [List.take_length] at hl
    exact ⟨⟨_, ex_l e3 hx', by rw [List.length_map]; exact Nat.le_refl _⟩, q D H' (fresh_back e1 hD) (e1.trans e3) hl⟩
end
end KW
set_option Elab.async false
set_option linter.all false
set_option maxRecDepth 100000
set_option maxHeartbeats 4000000
set_option exponentiation.threshold 20000
namespace K16
open PySem PySem.Spec PyProof.Rows L2 StX GX KC KQ KW Evl M08 M09 M10 M01 M14 M15
section
variable {P : Program} {w : World} {K : PySem.W.Frag} {mg : Str → Option Value} {base : Heap} {Cl : Nat → Addr} {σ : L2.St} {H H' : Hp} {ta tb te : TE}
def fieldB (n : Nat) (bs : List Nat) : List Int := (bs.map fun (s : Nat) => (s : Int)).flatMap fun s => bitsL s.toNat (bl (n - 1))
theorem natsV_ints (bs : List Nat) : natsV bs = (bs.map fun (s : Nat) => (s : Int)).map V.int := by
  rw [List.map_map]
  rfl
theorem flat_len {f : Int → List Int} {c : Nat} : ∀ (xs : List Int), (∀ x ∈ xs, (f x).length ≤ c) → (xs.flatMap f).length ≤ xs.length * c
  | [], _ => by simp
  | x :: r, h => by
    have ih := flat_len r fun y hy => h y (List.mem_cons_of_mem _ hy)
    have := h x List.mem_cons_self
    rw [List.flatMap_cons, List.length_append, List.length_cons, Nat.add_mul]
    omega
def spBody (K : PySem.W.Frag) (c : Nat → List Nat → List Int) (pre : Hp → Prop) : Sp := fun vs H Q _ => ∃ (l : Addr) (n : Nat) (bs : List Nat), vs = [.int (n : Int), .ref l] ∧ 2 ≤ n ∧ n ≤ 16 ∧ SqL K H l (natsV bs) ∧ bs.length ≤ 300 ∧ bs ≠ [] ∧ (∀ s ∈ bs, s < n) ∧ pre H ∧ RetL ((c n bs).map V.int) H Q
theorem ok_field_body {f : Addr} {fd : FuncData} {k : Nat} (F : Fun K "field_body" "field_body" s_field_body f fd) (B : Bs mg) (C_symbol_width : Cal P w K mg base "symbol_width" 1 ["size"] spWidth) (C_field_bits : Cal P w K mg base "field_bits" 1 ["number", "width"] spBits) : FnOk P w K mg base CX0 (k + 2) f fd ["size", "block"] (spBody K fieldB fun _ => True) := by
  refine F.ok sc_field_body (fun vs H Q E h => ?_) (fun cdv A outer s H vs Q E hr h => ?_)
  · obtain ⟨l, n, bs, rfl, _⟩ := h
    rfl
  · obtain ⟨l, n, bs, rfl, hn, hn2, hs, hl, hne, hb, _, q⟩ := h
    refine ⟨_, (pss_cons (ps_set (i := 2) sc_field_body.nd rfl (Or.inr rfl) (pe_callC C_symbol_width (hr.mono (by omega)) (by rfl) (pa_cons (pv 0) pa_nil)))
      (pss_one (ps_ret (pe_lc2 (vs1 := [4]) (wi1 := iList K (tCall spBits [] _ (tCons (tVar 3) (tCons (tVar 2) tNil)))) rfl sc_field_body.nd (pi_list (pv 1)) (blkOk_by (own := [("symbol", 3), ("bit", 4)]) (N := ["size", "block", "width", "symbol", "bit"]) (sc := defScope s_field_body) (by decide +kernel)) (by decide) (fun _ _ _ _ _ => (pg_name (i := 3) sc_field_body.nd rfl (Or.inl rfl))) (fun _ _ _ _ _ => pts_nil) (fun _ _ _ _ _ => (pi_list (pe_callC C_field_bits (hr.mono (by omega)) (by rfl) (pa_cons (pv 3) (pa_cons (pv 2) pa_nil))))) (fun _ _ _ _ _ => (pg_name (i := 4) sc_field_body.nd rfl (Or.inl rfl))) (fun _ _ _ _ _ => pts_nil) (fun _ _ _ _ _ => (pv 4)))))), ?_⟩
    have hw : bl (n - 1) ≤ 4 := bl_le (by omega) (by omega)
    refine q_asg (v := .int (bl (n - 1) : Nat)) (ev_call (ea1 (ev_var rfl)) fun H1 e1 Q q E => ⟨n, rfl, hn, q⟩) fun H1 e1 => ?_
    refine s_retL (el_lc2F (fun s => bitsL s.toNat (bl (n - 1))) (ev_var rfl) (by rw [← natsV_ints]; exact ex_l e1 hs) ?_ (fun x => rfl) (fun x y => rfl) (fun x y => rfl) fun x hx H2 e2 => ?_) fun p H2 hp e2 h2 => q p H2 (fresh_back e1 hp) (e1.trans e2) h2
    · have := flat_len (f := fun s => bitsL s.toNat (bl (n - 1))) (c := 4) (bs.map fun (s : Nat) => (s : Int)) fun x hx => by rw [bits_len]; exact hw
      rw [List.length_map] at this
      omega
    · obtain ⟨s, hs, rfl⟩ := List.mem_map.mp hx
      exact el_bits (x := s) (ev_var rfl) (ev_var rfl) rfl (by omega)
end
end K16
set_option Elab.async false
set_option linter.all false
set_option maxRecDepth 100000
set_option maxHeartbeats 4000000
set_option exponentiation.threshold 20000
namespace K16
open PySem PySem.Spec PyProof.Rows L2 StX GX KC KQ KW Evl M08 M09 M10 M01 M14 M15
def cntM (n : Nat) (bs : List Nat) : Md := ⟨0, [cntL n bs], 0, 0, 0⟩
def lrnM (n : Nat) : Md := ⟨1, [List.replicate n 1], 0, 8, 1000⟩
theorem cnt_sum {n : Nat} {bs : List Nat} (h : ∀ s ∈ bs, s < n) : ∀ i, i ≤ bs.length → (cntL n (bs.take i)).sum = (i : Int)
  | 0, _ => by
    have : cntL n (bs.take 0) = List.replicate n 0 := by
      unfold cntL
      refine List.ext_getElem (by simp) fun i h1 h2 => ?_
      simp
    rw [this]
    have : ∀ k : Nat, (List.replicate k (0 : Int)).sum = 0 := fun k => by
      induction k with
      | zero => rfl
      | succ k ih => rw [List.replicate_succ, List.sum_cons, ih]; rfl
    rw [this]
    rfl
  | i + 1, hi => by
    have htk : bs.take (i + 1) = bs.take i ++ [bs[i]] := (List.take_append_getElem (by omega)).symm
    have hs := h bs[i] (List.getElem_mem _)
    rw [htk, cnt_snoc _ hs, sum_set _ _ _ (by rw [cnt_len]; exact hs), cnt_sum h i (by omega)]
    push_cast
    rfl
theorem cnt_pos {n : Nat} {bs : List Nat} : ∀ x ∈ cntL n bs, 0 ≤ x := fun x hx => by
  obtain ⟨k, _, rfl⟩ := List.mem_map.mp hx
  omega
theorem cnt_live {n : Nat} {bs : List Nat} {s : Nat} (hs : s ∈ bs) (hn : s < n) : 1 ≤ (cntL n bs).getD s 0 := by
  unfold cntL
  rw [List.getD_eq_getElem?_getD, List.getElem?_map, List.getElem?_range hn]
  show (1 : Int) ≤ ((bs.filter fun t => decide (t = s)).length : Int)
  have : s ∈ bs.filter fun t => decide (t = s) := List.mem_filter.mpr ⟨hs, by simp⟩
  have := List.length_pos_of_mem this
  omega
theorem cnt_good {n : Nat} {bs : List Nat} (h1 : 2 ≤ n) (h2 : n ≤ 16) (hl : bs.length ≤ 300) (hne : bs ≠ []) (h : ∀ s ∈ bs, s < n) : Good n (cntM n bs) := by
  have hs := cnt_sum h bs.length (Nat.le_refl _)
  rw [List.take_length] at hs
  have hp := List.length_pos_iff.mpr hne
  refine ⟨⟨by omega, by omega, fun r hr => ?_, Nat.zero_lt_one, fun _ => rfl, fun z => absurd (show (0 : Nat) = 2 from z) (by decide), Int.le_refl 0, show (0 : Nat) ≤ 2 by decide⟩, fun r hr => ?_, show (0 : Int) ≤ 100 by decide, show (0 : Int) ≤ 8000 by decide⟩
  · rw [List.mem_singleton.mp hr]
    exact ⟨cnt_len n bs, cnt_pos, by omega⟩
  · rw [List.mem_singleton.mp hr, hs]
    omega
theorem cnt_msg {n : Nat} {bs : List Nat} (h : ∀ s ∈ bs, s < n) : Msg n (cntM n bs) bs := fun s hs => ⟨h s hs, fun r hr => by rw [List.mem_singleton.mp hr]; exact cnt_live hs (h s hs)⟩
theorem rep_sum (n : Nat) : (List.replicate n (1 : Int)).sum = n := by
  induction n with
  | zero => rfl
  | succ n ih => rw [List.replicate_succ, List.sum_cons, ih]; push_cast; omega
theorem lrn_good {n : Nat} (h1 : 2 ≤ n) (h2 : n ≤ 16) : Good n (lrnM n) := by
  refine ⟨ok_l (by omega) (by omega) (rep_ok (by omega)) (by decide), fun r hr => ?_, show (8 : Int) ≤ 100 by decide, show (1000 : Int) ≤ 8000 by decide⟩
  rw [List.mem_singleton.mp hr, rep_sum]
  omega
theorem lrn_msg {n : Nat} {bs : List Nat} (h : ∀ s ∈ bs, s < n) : Msg n (lrnM n) bs := fun s hs => ⟨h s hs, fun r hr => by
  rw [List.mem_singleton.mp hr, List.getD_eq_getElem?_getD, List.getElem?_replicate, if_pos (h s hs)]
  exact Int.le_refl 1⟩
theorem lrn_fresh (n : Nat) : (lrnM n).fresh = lrnM n := by
  show (if (1 : Nat) = 0 then lrnM n else ⟨1, [List.replicate n 1].map fun r => List.replicate r.length 1, 0, 8, 1000⟩) = lrnM n
  rw [if_neg (by decide)]
  unfold lrnM
  simp
theorem cnt_fresh (n : Nat) (bs : List Nat) : (cntM n bs).fresh = cntM n bs := by
  show (if (0 : Nat) = 0 then cntM n bs else _) = cntM n bs
  rw [if_pos rfl]
structure GC (mg : Str → Option Value) (t1 t2 t3 t4 t5 : Tok) : Prop where
  g_STEP : mg "STEP" = some (.int 8 t1)
  g_LIMIT : mg "LIMIT" = some (.int 1000 t2)
  g_LENGTH_WIDTH : mg "LENGTH_WIDTH" = some (.int 4 t3)
  g_LONGEST_WORD : mg "LONGEST_WORD" = some (.int 15 t4)
  g_FORM_WIDTH : mg "FORM_WIDTH" = some (.int 2 t5)
section
variable {P : Program} {w : World} {K : PySem.W.Frag} {mg : Str → Option Value} {base : Heap} {Cl : Nat → Addr} {σ : L2.St} {H H' : Hp} {ta tb te : TE} {t : TA} {t1 t2 t3 t4 t5 : Tok}
theorem el_mbC {E : XK} {a l : Addr} {n : Nat} {bs : List Nat} (h1 : 2 ≤ n) (h2 : n ≤ 16) (hl : bs.length ≤ 300) (hne : bs ≠ []) (h : ∀ s ∈ bs, s < n) (hs : SqL K H l (natsV bs)) (ha : EvA t σ H [.ref a]) (hca : SqL K H a ((cntL n bs).map V.int)) (hb : Ev tb σ H (.ref l)) :
    EvL (tCall (spMB K Cl) [] E (tCons (tMake (Cl 0) (spInitC K Cl) [] E0 t) (tCons tb tNil))) σ H ((mbL (cntM n bs) bs).map V.int) := fun H1 e Q q => by
    show tMake (Cl 0) (spInitC K Cl) [] E0 t σ H1 (fun v Ha => tb σ Ha fun u Hb => spMB K Cl ([v, u] ++ []) Hb Q E)
    refine (ep_counts (Cl := Cl) (K := K) ha hca) H1 e _ fun v H2 e2 ⟨p, l2, ev, hat, _, _⟩ => ?_
    subst ev
    refine hb H2 (e.trans e2) _ fun H3 e3 => ?_
    have hg := cnt_good h1 h2 hl hne h
    refine ⟨p, l, cntM n bs, _, n, bs, rfl, MAt.ext e3 (.inl ⟨rfl, cntL n bs, l2, rfl, rfl, hat, rfl⟩), hg.ok, by rw [cnt_fresh]; exact hg, ex_l ((e.trans e2).trans e3) hs, hl, by rw [cnt_fresh]; exact cnt_msg h, fun p2 H4 hp e4 h4 => q p2 H4 (fresh_back (e2.trans e3) hp) ((e2.trans e3).trans e4) (by rw [cnt_fresh] at h4; exact h4)⟩
theorem el_mbL {E : XK} {l : Addr} {n : Nat} {bs : List Nat} (h1 : 2 ≤ n) (h2 : n ≤ 16) (hl : bs.length ≤ 300) (h : ∀ s ∈ bs, s < n) (hs : SqL K H l (natsV bs)) (ha : EvA t σ H [.int (n : Int), .int 8, .int 1000]) (hb : Ev tb σ H (.ref l)) :
    EvL (tCall (spMB K Cl) [] E (tCons (tMake (Cl 1) (spInitL Cl) [] E0 t) (tCons tb tNil))) σ H ((mbL (lrnM n) bs).map V.int) := fun H1 e Q q => by
    show tMake (Cl 1) (spInitL Cl) [] E0 t σ H1 (fun v Ha => tb σ Ha fun u Hb => spMB K Cl ([v, u] ++ []) Hb Q E)
    refine (ep_learner (Cl := Cl) ha (by omega)) H1 e _ fun v H2 e2 ⟨p, l2, ev, hat, _, _⟩ => ?_
    subst ev
    refine hb H2 (e.trans e2) _ fun H3 e3 => ?_
    have hg := lrn_good h1 h2
    refine ⟨p, l, lrnM n, _, n, bs, rfl, MAt.ext e3 (mat_l hat), hg.ok, by rw [lrn_fresh]; exact hg, ex_l ((e.trans e2).trans e3) hs, hl, by rw [lrn_fresh]; exact lrn_msg h, fun p2 H4 hp e4 h4 => q p2 H4 (fresh_back (e2.trans e3) hp) ((e2.trans e3).trans e4) (by rw [lrn_fresh] at h4; exact h4)⟩
noncomputable def learnB (n : Nat) (bs : List Nat) : List Int := mbL (lrnM n) bs
theorem ok_learner_body {f : Addr} {fd : FuncData} {k : Nat} (F : Fun K "learner_body" "learner_body" s_learner_body f fd) (B : Bs mg) (T : GC mg t1 t2 t3 t4 t5) (N_Learner : CalM P w K mg base "Learner" (Cl 1) 1 ["self", "size", "step", "limit"] (spInitL Cl)) (C_model_bits : Cal P w K mg base "model_bits" 8 ["model", "block"] (spMB K Cl)) : FnOk P w K mg base CX0 (k + 9) f fd ["size", "block"] (spBody K learnB fun _ => True) := by
  refine F.ok sc_learner_body (fun vs H Q E h => ?_) (fun cdv A outer s H vs Q E hr h => ?_)
  · obtain ⟨l, n, bs, rfl, _⟩ := h
    rfl
  · obtain ⟨l, n, bs, rfl, hn, hn2, hs, hl, hne, hb, _, q⟩ := h
    refine ⟨_, (pss_one (ps_ret (pe_callC C_model_bits (hr.mono (by omega)) (by rfl) (pa_cons (pe_makeC N_Learner (hr.mono (by omega)) (by rfl) (pa_cons (pv 0) (pa_cons (pe_glob (v := .int 8) (by rfl) T.g_STEP ⟨_, rfl⟩) (pa_cons (pe_glob (v := .int 1000) (by rfl) T.g_LIMIT ⟨_, rfl⟩) pa_nil)))) (pa_cons (pv 1) pa_nil))))), ?_⟩
    exact s_retL (el_mbL hn hn2 hl hb hs (ea3 (ev_var rfl) ev_c ev_c) (ev_var rfl)) fun p H2 hp e2 h2 => q p H2 hp e2 h2
noncomputable def countB (n : Nat) (bs : List Nat) : List Int := ((cntL n bs).flatMap fun c => gam (c.toNat + 1)) ++ mbL (cntM n bs) bs
theorem ok_counts_body {f : Addr} {fd : FuncData} {k : Nat} (F : Fun K "counts_body" "counts_body" s_counts_body f fd) (B : Bs mg) (N_Counts : CalM P w K mg base "Counts" (Cl 0) 1 ["self", "weights"] (spInitC K Cl)) (C_block_counts : Cal P w K mg base "block_counts" 1 ["size", "block"] (spCounts K)) (C_gamma_bits : Cal P w K mg base "gamma_bits" 2 ["n"] (spN gam fun _ => True)) (C_model_bits : Cal P w K mg base "model_bits" 8 ["model", "block"] (spMB K Cl)) : FnOk P w K mg base CX0 (k + 9) f fd ["size", "block"] (spBody K countB fun _ => True) := by
  refine F.ok sc_counts_body (fun vs H Q E h => ?_) (fun cdv A outer s H vs Q E hr h => ?_)
  · obtain ⟨l, n, bs, rfl, _⟩ := h
    rfl
  · obtain ⟨l, n, bs, rfl, hn, hn2, hs, hl, hne, hb, _, q⟩ := h
    refine ⟨_, (pss_cons (ps_set (i := 2) sc_counts_body.nd rfl (Or.inl rfl) (pe_callC C_block_counts (hr.mono (by omega)) (by rfl) (pa_cons (pv 0) (pa_cons (pv 1) pa_nil))))
      (pss_cons (ps_setLc2 (i := 3) (vs1 := [5]) (wi1 := iList K (tCall (spN gam fun _ => True) [] _ (tCons (tOp (rI0 fun i j => .int (i + j)) (tVar 4) (tC (.int 1))) tNil))) rfl sc_counts_body.nd rfl rfl (sw_true rfl rfl rfl (by decide +kernel)) (pi_list (pv 2)) (blkOk_by (own := [("count", 4), ("bit", 5)]) (N := ["size", "block", "counts", "told", "count", "bit"]) (sc := defScope s_counts_body) (by decide +kernel)) (by decide) (fun _ _ _ _ _ => (pg_name (i := 4) sc_counts_body.nd rfl (Or.inl rfl))) (fun _ _ _ _ _ => pts_nil) (fun _ _ _ _ _ => (pi_list (pe_callC C_gamma_bits (hr.mono (by omega)) (by rfl) (pa_cons (pe_op op_add (pv 4) pe_int) pa_nil)))) (fun _ _ _ _ _ => (pg_name (i := 5) sc_counts_body.nd rfl (Or.inl rfl))) (fun _ _ _ _ _ => pts_nil) (fun _ _ _ _ _ => (pv 5)))
      (pss_one (ps_ret (pe_op op_cat (pv 3) (pe_callC C_model_bits (hr.mono (by omega)) (by rfl) (pa_cons (pe_makeC N_Counts (hr.mono (by omega)) (by rfl) (pa_cons (pv 2) pa_nil)) (pa_cons (pv 1) pa_nil)))))))), ?_⟩
    have hsum := cnt_sum hb bs.length (Nat.le_refl _)
    rw [List.take_length] at hsum
    have hcb : ∀ x ∈ cntL n bs, x.toNat ≤ 300 := fun x hx => by
      obtain ⟨k, _, rfl⟩ := List.mem_map.mp hx
      have := List.length_filter_le (fun s => decide (s = k)) bs
      show ((bs.filter fun s => decide (s = k)).length : Int).toNat ≤ 300
      omega
    have hgl : ∀ x ∈ cntL n bs, (gam (x.toNat + 1)).length ≤ 20 := fun x hx => by
      have := hcb x hx
      rw [gam_len]
      have : bl (x.toNat + 1) ≤ 10 := bl_le (by omega) (by omega)
      omega
    have hfl := flat_len (f := fun c => gam (c.toNat + 1)) (c := 20) (cntL n bs) hgl
    rw [cnt_len] at hfl
    refine q_asgL (el_call (ea2 (ev_var rfl) (ev_var rfl)) fun H1 e1 Q q E => ⟨l, n, bs, rfl, by omega, ex_l e1 hs, hb, q⟩) fun pc H1 hpc e1 h1 => ?_
    refine q_asgL (el_lc2F (fun c => gam (c.toNat + 1)) (ev_var rfl) (sq_of h1) (by omega) (fun x => rfl) (fun x y => rfl) (fun x y => rfl) fun x hx H2 e2 => ?_) fun pt H2 hpt e2 h2 => ?_
    · have hx0 := cnt_pos x hx
      have := hcb x hx
      exact el_n (n := x.toNat + 1) (ev_is (ev_add (ev_var rfl) ev_c) (by congr 1; omega)) (by omega) (by omega) trivial
    · have hml : (mbL (cntM n bs) bs).length ≤ 5000 := by
        unfold mbL
        have := encW_len (cntM n bs) bs
        rw [List.length_append, gam_len]
        have : bl ((encW (cntM n bs) bs).length + 1) ≤ 13 := bl_le (by omega) (by omega)
        omega
      refine s_retL (xs := (countB n bs).map V.int) ?_ fun p H3 hp e3 h3 => q p H3 (fresh_back (e1.trans e2) hp) ((e1.trans e2).trans e3) h3
      unfold countB
      rw [List.map_append]
      exact el_cat3 (ev_var rfl) h2 (el_mbC hn hn2 hl hne hb (ex_l (e1.trans e2) hs) (ea1 (ev_var rfl)) (sq_of (e2 _ _ h1)) (ev_var rfl)) (by rw [List.length_map, List.length_map]; omega)
end
end K16
set_option Elab.async false
set_option linter.all false
set_option maxRecDepth 100000
set_option maxHeartbeats 4000000
/-! A list comprehension over enumerate(xs); a loop over zip(xs, ys). -/
namespace KW
open PySem PySem.Spec PyProof.Rows L2 StX GX KC KQ Evl
section
variable {K : PySem.W.Frag} {σ : L2.St} {H : Hp} {ta tb te : TE} {t : TT} {D : Ends} {tu tz : TS}
theorem el_lcEn {a : Addr} {xs : List L2.V} {j k : Nat} {vs : List Nat} (f : Nat → Bool) (v : Nat → L2.V) (h : Ev ta σ H (.ref a)) (hx : SqL K H a xs) (hz : xs.length ≤ 40000) (hw : ∀ x y, wipe (((wipe σ vs).set j (some x)).set k (some y)) vs = wipe σ vs)
    (ht : ∀ (i : Nat) (x : L2.V) H1, Ex H H1 → xs[i]? = some x → EvT t (((wipe σ vs).set j (some (.int (i : Int)))).set k (some x)) H1 (f i)) (he : ∀ (i : Nat) (x : L2.V) H1, Ex H H1 → xs[i]? = some x → f i = true → Ev te (((wipe σ vs).set j (some (.int (i : Int)))).set k (some x)) H1 (v i)) :
    EvL (tLc (iEnum K (tCons ta tNil)) (gTup K 2 (gCons (gName j) (gCons (gName k) gNil))) t te vs) σ H (given xs.length f v) := fun H0 e Q q => h H0 e _ fun H1 e1 => by
  have hx1 := ex_l (e.trans e1) hx
  refine ⟨a, xs, rfl, hx1, fun Dl hD => ⟨fun i m H' => m + i = xs.length ∧ Cw H1 f v Dl i H', ⟨xs.length, by omega, hD, Ex.new hD, upd_same⟩, ?_⟩⟩
  rintro i m H' ⟨hm, p⟩
  by_cases hi : i < xs.length
  · right
    have hat : xs[i]? = some xs[i] := List.getElem?_eq_getElem hi
    refine ⟨⟨xs, xs[i], ex_l p.2.1 hx1, hat⟩, fun H' => (m - 1) + (i + 1) = xs.length ∧ Cw H1 f v Dl (i + 1) H', fun H' q => ⟨m - 1, by omega, q⟩, ?_⟩
    rintro x H5 ⟨T, y, rfl, hT, rfl, hy⟩
    have ey := hy xs (ex_l p.2.1 hx1)
    have hne : Dl ≠ T := fun z => by rw [← z, p.2.2] at hT; cases hT
    have p2 : Cw H1 f v Dl i (upd H' T (.tup [.int (i : Nat), y])) := ⟨p.1, p.2.1.trans (Ex.new hT), by rw [upd_ne hne]; exact p.2.2⟩
    refine ⟨T, _, rfl, .inl (.inl upd_same), rfl, _, _, rfl, _, _, rfl, rfl, ?_⟩
    refine ⟨hw _ _, ?_⟩
    have c := cw_turn p2 (by omega) (ht i y H1 (e.trans e1) ey) (fun hf => he i y H1 (e.trans e1) ey hf)
    have hmm : (m - 1) + (i + 1) = xs.length := by omega
    simp only [hmm, true_and]
    exact c
  · left
    have hin : i = xs.length := by omega
    subst hin
    exact ⟨⟨xs, ex_l p.2.1 hx1, Nat.le_refl _⟩, q Dl H' (fresh_back e1 p.1) (e1.trans p.2.1) p.2.2⟩
theorem s_forZ {a b : Addr} {xs ys : List L2.V} {j k : Nat} (h : Ev ta σ H (.ref a)) (h2 : Ev tb σ H (.ref b)) (hx : SqL K H a xs) (hy : SqL K H b ys) (hl : xs.length = ys.length) (Pv : Nat → L2.St → Hp → Prop) (h0 : ∀ H1, Ex H H1 → Pv 0 σ H1) (hq : ∀ i σ' H', Pv i σ' H' → SqL K H' a xs ∧ SqL K H' b ys)
    (hs : ∀ i x y σ' H' H2, xs[i]? = some x → ys[i]? = some y → Pv i σ' H' → Ex H' H2 → tu { D with nx := Pv (i + 1), ct := Pv (i + 1), bk := D.nx } ((σ'.set j (some x)).set k (some y)) H2) (hd : ∀ σ' H', Pv xs.length σ' H' → D.nx σ' H') :
    tFor (iZip K (tCons ta (tCons tb tNil))) (gTup K 2 (gCons (gName j) (gCons (gName k) gNil))) tu D σ H :=
  h H (Ex.refl H) _ fun H1 e1 => h2 H1 e1 _ fun H2 e2 => ⟨a, b, xs, ys, rfl, ex_l (e1.trans e2) hx, ex_l (e1.trans e2) hy, _root_.RZ.for_zipL hl Pv (h0 H2 (e1.trans e2)) (fun i σ' H' p => hq i σ' H' p) (fun i x y T σ' H' g1 g2 p hT => ⟨T, _, rfl, .inl (.inl upd_same), rfl, _, _, rfl, _, _, rfl, rfl, hs i x y σ' H' _ g1 g2 p (Ex.new hT)⟩) hd⟩
theorem q_forZ {a b : Addr} {xs ys : List L2.V} {j k : Nat} (h : Ev ta σ H (.ref a)) (h2 : Ev tb σ H (.ref b)) (hx : SqL K H a xs) (hy : SqL K H b ys) (hl : xs.length = ys.length) (Pv : Nat → L2.St → Hp → Prop) (h0 : ∀ H1, Ex H H1 → Pv 0 σ H1) (hq : ∀ i σ' H', Pv i σ' H' → SqL K H' a xs ∧ SqL K H' b ys)
    (hs : ∀ i x y σ' H' H2, xs[i]? = some x → ys[i]? = some y → Pv i σ' H' → Ex H' H2 → tu { D with nx := Pv (i + 1), ct := Pv (i + 1), bk := tz D } ((σ'.set j (some x)).set k (some y)) H2) (hd : ∀ σ' H', Pv xs.length σ' H' → tz D σ' H') :
    tSeq (tFor (iZip K (tCons ta (tCons tb tNil))) (gTup K 2 (gCons (gName j) (gCons (gName k) gNil))) tu) tz D σ H := s_forZ (D := { D with nx := tz D }) h h2 hx hy hl Pv h0 hq hs hd
end
end KW
set_option Elab.async false
set_option linter.all false
set_option maxRecDepth 100000
set_option maxHeartbeats 4000000
/-! Dicts whose keys are tuples of ints and texts, made here or written in the text. -/
namespace KC
open PySem PySem.Spec PyProof.Rows L2 GX Evl
def DXp (P : Program) (w : World) (a : Addr) (xs : List (List Key × Addr × Value)) (o : Obj) (h : Heap) : Prop := xs.length ≤ sizeLine ∧ (a == sysModules) = false ∧
  ∃ es ep, h.get? a = some o ∧ o.ExactDict ∧ o.data = .dict es ep ∧ es.toList = xs.map (entryOfKey (tupleKind (mixKind P w))) ∧ (xs.map (·.1)).Nodup
abbrev DX (P : Program) (w : World) (a : Addr) (xs : List (List Key × Addr × Value)) (o : Obj) : HO := .ext (DXp P w a xs o)
abbrev KX (K : PySem.W.Frag) (H : Hp) : List (List Key × V) → List (List Key × Addr × Value) → Prop := Paired fun p q => p.1 = q.1 ∧ SqT K H q.2.1 (p.1.map kV) ∧ RelV p.2 q.2.2
def DAt (P : Program) (w : World) (K : PySem.W.Frag) (H : Hp) (a : Addr) (kvs : List (List Key × V)) : Prop := ∃ xs o, H a = some (DX P w a xs o) ∧ KX K H kvs xs
theorem KX.val {K : PySem.W.Frag} {H : Hp} {kvs : List (List Key × V)} {xs : List (List Key × Addr × Value)} (r : KX K H kvs xs) (k : List Key) : RelO (valV kvs k) ((atKey xs k).map (·.2)) := by
  induction r with
  | nil => exact True.intro
  | @cons p q ps qs h t ih =>
    obtain ⟨h1, _, h2⟩ := h
    by_cases e : p.1 = k
    · have e' : q.1 = k := h1.symm.trans e
      have b : atKey (q :: qs) k = some q.2 := by simp [atKey, List.find?_cons, e']
      rw [valV_pos e, b]; exact h2
    · have e' : ¬ q.1 = k := fun z => e (h1.trans z)
      have b : atKey (q :: qs) k = atKey qs k := by simp [atKey, List.find?_cons, e']
      rw [valV_neg e, b]; exact ih
theorem KX.repl {K : PySem.W.Frag} {H : Hp} {kvs : List (List Key × V)} {xs : List (List Key × Addr × Value)} (r : KX K H kvs xs) (k : List Key) {y : V} {u : Value} (ry : RelV y u) :
    KX K H (kvs.map fun kv => if kv.1 = k then (kv.1, y) else kv) (xs.map (putAt k u)) := by
  induction r with
  | nil => exact .nil
  | @cons p q ps qs h t ih =>
    rw [List.map_cons, List.map_cons]
    refine .cons ?_ ih
    obtain ⟨h1, h2, h3⟩ := h
    unfold putAt
    by_cases e : p.1 = k
    · rw [if_pos e, if_pos (h1.symm.trans e)]; exact ⟨h1, h2, ry⟩
    · rw [if_neg e, if_neg (fun z => e (h1.trans z))]; exact ⟨h1, h2, h3⟩
theorem KX.put {K : PySem.W.Frag} {H : Hp} {kvs : List (List Key × V)} {xs : List (List Key × Addr × Value)} (r : KX K H kvs xs) (k : List Key) {b : Addr} {y : V} {u : Value} (hb : SqT K H b (k.map kV)) (ry : RelV y u) :
    KX K H (putK kvs k y) (storedH xs k b u) := by
  have e : (kvs.any fun kv => decide (kv.1 = k)) = (atKey xs k).isSome := by
    rw [valV_any, (r.val k).isSome_eq, Option.isSome_map]
  unfold putK storedH
  rw [e]
  by_cases q : (atKey xs k).isSome = true
  · rw [if_pos q, if_pos q]; exact r.repl k ry
  · rw [if_neg q, if_neg q]; exact Paired.snoc r ⟨rfl, hb, ry⟩
theorem KX.keeps {K : PySem.W.Frag} {H H' : Hp} {kvs : List (List Key × V)} {xs : List (List Key × Addr × Value)} (r : KX K H kvs xs) (ht : ∀ b ys, SqT K H b ys → SqT K H' b ys) : KX K H' kvs xs :=
  Paired.mapP r fun _ _ z => ⟨z.1, ht _ _ z.2.1, z.2.2⟩
theorem DAt.ext {P : Program} {w : World} {K : PySem.W.Frag} {H H' : Hp} {a : Addr} {kvs : List (List Key × V)} (e : Ex H H') (h : DAt P w K H a kvs) : DAt P w K H' a kvs := by
  obtain ⟨xs, o, h1, h2⟩ := h
  exact ⟨xs, o, e _ _ h1, h2.keeps fun b ys z => ex_t e z⟩
theorem sqt_ext {K : PySem.W.Frag} {H : Hp} {a b : Addr} {ys : List V} {φ : Heap → Prop} {o : HO} (h : SqT K H b ys) (e : H a = some (.ext φ)) : SqT K (upd H a o) b ys := by
  rcases h with (h | ⟨ob, h⟩) | h
  · exact .inl (.inl (by rw [upd_ne (fun z => by rw [z, e] at h; cases h)]; exact h))
  · exact .inl (.inr ⟨ob, by rw [upd_ne (fun z => by rw [z, e] at h; cases h)]; exact h⟩)
  · exact .inr h
section
variable {X : Cx} {pins : List (Addr × Obj)} {σ : L2.St} {H : Hp} {s : Shared} {a b : Addr} {kvs : List (List Key × V)} {xs : List (List Key × Addr × Value)} {k : List Key} {v : V} {r : Value} {A : Around} {E : Value → Shared → Prop}
theorem key_ofX (I : Inv X pins σ H s) (h : SqT X.K H b (k.map kV)) : (tupleKind (mixKind X.prog X.w)).is s.heap k b := by
  obtain ⟨its, r, ⟨o, h1, h2, n, h3⟩, _⟩ := I.tuple h
  exact ⟨o, its.toArray, n, h1, h2, h3, by simpa using items_are r⟩
theorem dx_heap {o : Obj} (I : Inv X pins σ H s) (e : H a = some (DX X.prog X.w a xs o)) (r : KX X.K H kvs xs) : xs.length ≤ sizeLine ∧ (a == sysModules) = false ∧ s.heap.DictOfH (tupleKind (mixKind X.prog X.w)) a xs := by
  obtain ⟨z, y, es, ep, h1, h2, h3, h4, h5⟩ := (show DXp X.prog X.w a xs o s.heap from (show ObjOk X.prog X.w H s.heap a (DX X.prog X.w a xs o) from I.hok a _ e).1)
  refine ⟨z, y, o, es, ep, h1, h2, h3, h4, fun x hx => ?_, h5⟩
  have all : ∀ {l : List (List Key × V)} {m : List (List Key × Addr × Value)}, KX X.K H l m → ∀ x ∈ m, (tupleKind (mixKind X.prog X.w)).is s.heap x.1 x.2.1 := by
    intro l m q
    induction q with
    | nil => intro x hx; exact nomatch hx
    | @cons p q ps qs hq t ih =>
      intro x hx
      rcases List.mem_cons.mp hx with e | hx
      · subst e
        exact key_ofX I (by rw [← hq.1]; exact hq.2.1)
      · exact ih x hx
  exact all r x hx
theorem dx_ok {P : Program} {w : World} {o : Obj} {H' : Hp} {h' : Heap} (h : DXp P w a xs o h') : ObjOk P w H' h' a (DX P w a xs o) := by
  obtain ⟨z, y, es, ep, h1, h2⟩ := id h
  refine ⟨h, ⟨o, h1⟩, fun g1 g2 ⟨z, y, es, ep, k1, k2⟩ st => ⟨z, y, es, ep, st o k1, k2⟩⟩
theorem dx_getItem {Q : Value → Shared → Prop} (hu : A.units + 1 < cLine) (I : Inv X pins σ H s) (g : DAt X.prog X.w X.K H a kvs) (hb : SqT X.K H b (k.map kV)) (l : valV kvs k = some v) (h : ∀ w' s', Inv X pins σ H s' → RelV v w' → Q w' s') :
    wpAny (model X.prog X.w) A (getItem (.ref a) (.ref b)) Q E s := by
  obtain ⟨xs, o, e, rel⟩ := g
  obtain ⟨z, hd, dd⟩ := dx_heap I e rel
  obtain ⟨w', hw, rw'⟩ := RelO.some_of (v := v) (o := (atKey xs k).map (·.2)) (by rw [← l]; exact rel.val k)
  obtain ⟨p, hp, hp2⟩ := Option.map_eq_some_iff.mp hw
  refine wpAny_getItem_heap (tupleKind_room_in1 hu) (key_ofX I hb) dd hp ?_
  rw [hp2]
  exact h w' _ (I.tok _) rw'
theorem dx_notIn {Q : Value → Shared → Prop} (hu : A.units + 1 < cLine) (I : Inv X pins σ H s) (g : DAt X.prog X.w X.K H a kvs) (hb : SqT X.K H b (k.map kV)) (h : ∀ s', Inv X pins σ H s' → Q (.bool (!(valV kvs k).isSome)) s') :
    wpAny (model X.prog X.w) A (compareOp .NotIn (.ref b) (.ref a)) Q E s := by
  obtain ⟨xs, o, e, rel⟩ := g
  obtain ⟨z, hd, dd⟩ := dx_heap I e rel
  refine wpAny_notIn_heap (tupleKind_room_in1 hu) (key_ofX I hb) hd dd ?_
  have q := (rel.val k).isSome_eq
  rw [Option.isSome_map] at q
  rw [← q]
  exact h _ (I.tok _)
theorem dx_in {Q : Value → Shared → Prop} (hu : A.units + 1 < cLine) (I : Inv X pins σ H s) (g : DAt X.prog X.w X.K H a kvs) (hb : SqT X.K H b (k.map kV)) (h : ∀ s', Inv X pins σ H s' → Q (.bool (valV kvs k).isSome) s') :
    wpAny (model X.prog X.w) A (compareOp .In (.ref b) (.ref a)) Q E s := by
  obtain ⟨xs, o, e, rel⟩ := g
  obtain ⟨z, hd, dd⟩ := dx_heap I e rel
  refine wpAny_in_heap (tupleKind_room_in1 hu) (key_ofX I hb) hd dd ?_
  have q := (rel.val k).isSome_eq
  rw [Option.isSome_map] at q
  rw [← q]
  exact h _ (I.tok _)
theorem dx_setItem {Q : Unit → Shared → Prop} (hu : A.units + 1 < cLine) (I : Inv X pins σ H s) (g : DAt X.prog X.w X.K H a kvs) (hb : SqT X.K H b (k.map kV)) (hl : kvs.length < sizeLine) (rv : RelV v r)
    (h : ∀ H' s', DAt X.prog X.w X.K H' a (putK kvs k v) → (∀ c, c ≠ a → H' c = H c) → Inv X pins σ H' s' → Q () s') : wpAny (model X.prog X.w) A (setItem (.ref a) (.ref b) r) Q E s := by
  obtain ⟨xs, o, e, rel⟩ := g
  obtain ⟨z, hd, dd⟩ := dx_heap I e rel
  have hz : xs.length ≤ sizeLine := z
  have hl2 := Paired.length rel
  refine wpAny_setItem_heap (hsz := hz) (tupleKind_room_in1 hu) (key_ofX I hb) dd fun h' dd' hs => ?_
  obtain ⟨q, es, ep, hq, h2, h3, h4, _, h5⟩ := dd'
  have rel2 := rel.put k hb rv
  have hl3 : (storedH xs k b r).length ≤ sizeLine := by
    have := Paired.length rel2
    have := length_putK kvs k v
    omega
  refine h (upd H a (DX X.prog X.w a (storedH xs k b r) q)) _ ⟨_, _, upd_same, rel2.keeps fun c ys ec => sqt_ext ec e⟩ (fun c hc => upd_ne hc) ?_
  exact d_write I (by rw [e]; exact True.intro) hs ⟨q, hq⟩ (dx_ok ⟨hl3, hd, es, ep, hq, h2, h3, h4, h5⟩)
end
/-! ### readings and rules -/
def newD : Obj := { cls := .type "dict", data := .dict #[] }
def tDNewX (P : Program) (w : World) : TE := fun _ H Q => ∀ p, H p = none → Q (.ref p) (upd H p (DX P w p [] newD))
def tDGetX (P : Program) (w : World) (K : PySem.W.Frag) (td ty : TE) : TE := fun σ H Q => td σ H fun x H1 => ty σ H1 fun y H2 => ∃ a kvs b k v, x = .ref a ∧ y = .ref b ∧ DAt P w K H2 a kvs ∧ SqT K H2 b (k.map kV) ∧ valV kvs k = some v ∧ Q v H2
def tDNotInX (P : Program) (w : World) (K : PySem.W.Frag) (ty td : TE) : TE := fun σ H Q => ty σ H fun y H1 => td σ H1 fun x H2 => ∃ a kvs b k, x = .ref a ∧ y = .ref b ∧ DAt P w K H2 a kvs ∧ SqT K H2 b (k.map kV) ∧ Q (.bl (!(valV kvs k).isSome)) H2
def tDInX (P : Program) (w : World) (K : PySem.W.Frag) (ty td : TE) : TE := fun σ H Q => ty σ H fun y H1 => td σ H1 fun x H2 => ∃ a kvs b k, x = .ref a ∧ y = .ref b ∧ DAt P w K H2 a kvs ∧ SqT K H2 b (k.map kV) ∧ Q (.bl (valV kvs k).isSome) H2
def sDPutX (P : Program) (w : World) (K : PySem.W.Frag) (td ty tv : TE) : TS := fun D σ H => tv σ H fun v H1 => td σ H1 fun x H2 => ty σ H2 fun y H3 => ∃ a kvs b k, x = .ref a ∧ y = .ref b ∧ DAt P w K H3 a kvs ∧ SqT K H3 b (k.map kV) ∧ kvs.length < sizeLine ∧
  ∀ H4, DAt P w K H4 a (putK kvs k v) → (∀ c, c ≠ a → H4 c = H3 c) → D.nx σ H4
section
variable {X : Cx} {P : Program} {w : World} {K : PySem.W.Frag} {o i value : Expr} {pos pos' : Pos} {td ty tv : TE}
theorem pe_dnewX (hX : X.prog = P ∧ X.w = w ∧ X.K = K) : PE X (.Dict [] [] pos) (tDNewX P w) := by
  obtain ⟨rfl, rfl, rfl⟩ := hX
  refine ⟨fun pins s σ H Q I h => wpAny_Dict_empty ⟨.ref s.heap.objs.size, _, I.laid (a := s.heap.objs.size) (o := DX X.prog X.w s.heap.objs.size [] newD) (t' := s.toks) (fun _ _ q => Heap.get?_push_of_some _ q) (Nat.le_refl _) (dx_ok ?_), rfl, h _ (I.hok.fresh (Nat.le_refl _))⟩⟩
  exact ⟨Nat.zero_le _, beq_eq_false_iff_ne.mpr (Ne.symm (Nat.ne_of_lt I.big)), #[], 0, Heap.get?_push_size _ rfl, ⟨rfl, rfl, rfl⟩, rfl, rfl, List.nodup_nil⟩
theorem dx_typeIs {pins : List (Addr × Obj)} {σ : L2.St} {H : Hp} {s : Shared} {a : Addr} {kvs : List (List Key × V)} (I : Inv X pins σ H s) (g : DAt X.prog X.w X.K H a kvs) : s.TypeIs (.ref a) "dict" := by
  obtain ⟨xs, o, e, rel⟩ := g
  obtain ⟨_, _, dd⟩ := dx_heap I e rel
  exact dd.typeIs
theorem pe_dgx (hX : X.prog = P ∧ X.w = w ∧ X.K = K) (hu : X.A.units + 1 < cLine) (ho : PE X o td) (hi : PE X i ty) (hs : NoSl i) : PE X (.Subscript o i pos) (tDGetX P w K td ty) := by
  obtain ⟨rfl, rfl, rfl⟩ := hX
  refine ⟨fun pins s σ H Q I h => ?_⟩
  refine subD_of PySem.F.slot_dict_getitem.lookup hs (thn (ho.run pins s σ H _ I h) fun u s1 ⟨x, H1, I1, rx, q1⟩ => thn (hi.run pins s1 σ H1 _ I1 q1) fun iv s2 ⟨y, H2, I2, ry, a, kvs, b, k, v, ex, ey, g, hb, l, q2⟩ => ?_)
  subst ex ey
  obtain rfl : u = Value.ref a := rx
  obtain rfl : iv = Value.ref b := ry
  exact ⟨dx_typeIs I2 g, dx_getItem hu I2 g hb l fun w' s3 I3 rw' => ⟨v, H2, I3, rw', q2⟩⟩
theorem pc_dnotinX (hX : X.prog = P ∧ X.w = w ∧ X.K = K) (hu : X.A.units + 1 < cLine) (hi : PE X i ty) (ho : PE X o td) : PC X .NotIn i o (tDNotInX P w K ty td) := by
  obtain ⟨rfl, rfl, rfl⟩ := hX
  refine ⟨fun pins s σ H Q I h => ?_⟩
  refine thn (hi.run pins s σ H _ I h) fun iv s1 ⟨y, H1, I1, ry, q1⟩ => thn (ho.run pins s1 σ H1 _ I1 q1) fun u s2 ⟨x, H2, I2, rx, a, kvs, b, k, ex, ey, g, hb, q2⟩ => ?_
  subst ex ey
  obtain rfl : u = Value.ref a := rx
  obtain rfl : iv = Value.ref b := ry
  exact dx_notIn hu I2 g hb fun s3 I3 => ⟨.bl _, H2, I3, rfl, q2⟩
theorem pc_dinX (hX : X.prog = P ∧ X.w = w ∧ X.K = K) (hu : X.A.units + 1 < cLine) (hi : PE X i ty) (ho : PE X o td) : PC X .In i o (tDInX P w K ty td) := by
  obtain ⟨rfl, rfl, rfl⟩ := hX
  refine ⟨fun pins s σ H Q I h => ?_⟩
  refine thn (hi.run pins s σ H _ I h) fun iv s1 ⟨y, H1, I1, ry, q1⟩ => thn (ho.run pins s1 σ H1 _ I1 q1) fun u s2 ⟨x, H2, I2, rx, a, kvs, b, k, ex, ey, g, hb, q2⟩ => ?_
  subst ex ey
  obtain rfl : u = Value.ref a := rx
  obtain rfl : iv = Value.ref b := ry
  exact dx_in hu I2 g hb fun s3 I3 => ⟨.bl _, H2, I3, rfl, q2⟩
theorem ps_dputX (hX : X.prog = P ∧ X.w = w ∧ X.K = K) (hu : X.A.units + 1 < cLine) (ho : PE X o td) (hi : PE X i ty) (hv : PE X value tv) (hs : swapsWith value (some (.Subscript o i pos')) pos.line X.env = pure false) :
    PS X (.Assign [.Subscript o i pos'] value pos) (sDPutX P w K td ty tv) := by
  obtain ⟨rfl, rfl, rfl⟩ := hX
  refine ⟨fun pins s σ H D I h => ?_⟩
  refine wpAny_Assign_Subscript (thn (hv.run pins s σ H _ I h) fun r s1 ⟨v, H1, I1, rv, q1⟩ => thn (ho.run pins s1 σ H1 _ I1 q1) fun u s2 ⟨x, H2, I2, rx, q2⟩ => thn (hi.run pins s2 σ H2 _ I2 q2) fun iv s3 ⟨y, H3, I3, ry, a, kvs, b, k, ex, ey, g, hb, hl, q3⟩ => ?_) hs
  subst ex ey
  obtain rfl : u = Value.ref a := rx
  obtain rfl : iv = Value.ref b := ry
  exact dx_setItem hu I3 g hb hl rv fun H4 s4 d4 k4 I4 => ⟨σ, H4, I4, q3 H4 d4 k4⟩
end
/-- the key tuples of a dict, in order -/
def IsKeysX (K : PySem.W.Frag) (H : Hp) (kvs : List (List Key × V)) (bs : List Addr) : Prop := Paired (fun p b => SqT K H b (p.1.map kV)) kvs bs
theorem isKeysX_of {K : PySem.W.Frag} {H : Hp} {kvs : List (List Key × V)} {xs : List (List Key × Addr × Value)} (r : KX K H kvs xs) : IsKeysX K H kvs (xs.map fun x => x.2.1) := by
  unfold IsKeysX
  induction r with
  | nil => exact Paired.nil
  | cons h t ih => exact Paired.cons h.2.1 ih
section
variable {X : Cx}
theorem call_list_dX (hc : X.calm = true) : CallR X (.type "list") (fun xs H Q => ∃ d kvs, xs = [V.ref d] ∧ DAt X.prog X.w X.K H d kvs ∧ ∀ p bs, H p = none → IsKeysX X.K H kvs bs → Q (.ref p) (upd H p (.lst (bs.map V.ref)))) := by
  intro pins s σ H xs us Q I r h
  obtain ⟨d, kvs, rfl, ⟨ks, o, hd, pr⟩, q⟩ := h
  obtain ⟨u, rfl, rx⟩ := r.one
  cases rx
  obtain ⟨z, hs, es, ep, ho, hx, hdt, he, hn⟩ := (show DXp X.prog X.w d ks o s.heap from (show ObjOk X.prog X.w H s.heap d (DX X.prog X.w d ks o) from I.hok d _ hd).1)
  have l1 : es.size = ks.length := size_of_entries he
  refine PySem.W.kdl_call (kdl_raw hs hx hdt) (I.ok.hd hc) ho (by omega) fun h' tk acc' c' kp e it => ?_
  have ea : acc'.toList = ks.map fun x => Value.ref x.2.1 := by
    have hl : acc'.toList.length = ks.length := by rw [Array.length_toList, it.1]; exact l1
    apply List.ext_getElem?
    intro j
    rw [List.getElem?_map]
    cases hj : acc'.toList[j]? with
    | none =>
      have h1 := List.getElem?_eq_none_iff.mp hj
      rw [List.getElem?_eq_none (by omega)]
      all_goals rfl
    | some v =>
      obtain ⟨en, hen, hv⟩ := it.2 j v (by rw [← Array.getElem?_toList]; exact hj)
      have qe := entry_at he j
      rw [hen] at qe
      cases hb : ks[j]? with
      | none =>
        rw [hb] at qe
        exact nomatch (show some en = none from qe)
      | some b =>
        rw [hb] at qe
        have e2 : en = entryOfKey (tupleKind (mixKind X.prog X.w)) b := Option.some.inj qe
        rw [hv, e2]
        all_goals rfl
  have eb : acc'.toList = (ks.map fun x => x.2.1).map Value.ref := by rw [ea, List.map_map]; all_goals rfl
  have rv : Vals ((ks.map fun x => x.2.1).map V.ref) acc'.toList := by rw [eb]; exact vals_refs _
  have hz : ((ks.map fun x => x.2.1).map V.ref).length ≤ sizeLine := by rw [List.length_map, List.length_map]; omega
  refine ⟨.ref s.heap.objs.size, _, I.laid (t' := tk) (o := .lst ((ks.map fun x => x.2.1).map V.ref)) kp (Nat.le_refl _) ?_, rfl, q _ _ (I.hok.fresh (Nat.le_refl _)) (isKeysX_of pr)⟩
  exact ⟨hz, acc'.toList, c', rv, by rw [Array.toArray_toList]; exact e⟩
end
/-! ### what they give -/
section
variable {P : Program} {w : World} {K : PySem.W.Frag} {σ : L2.St} {H : Hp} {td ty tv : TE} {D : Ends} {tz : TS} {a b : Addr} {kvs : List (List Key × V)} {k : List Key} {v : V}
theorem ev_dgx (h1 : Ev td σ H (.ref a)) (h2 : Ev ty σ H (.ref b)) (g : DAt P w K H a kvs) (hb : SqT K H b (k.map kV)) (l : valV kvs k = some v) : Ev (tDGetX P w K td ty) σ H v := fun H1 e Q q =>
  h1 H1 e _ fun H2 e2 => h2 H2 (e.trans e2) _ fun H3 e3 => ⟨a, kvs, b, k, v, rfl, rfl, g.ext ((e.trans e2).trans e3), ex_t ((e.trans e2).trans e3) hb, l, q H3 (e2.trans e3)⟩
theorem ev_dnotinX (h2 : Ev ty σ H (.ref b)) (h1 : Ev td σ H (.ref a)) (g : DAt P w K H a kvs) (hb : SqT K H b (k.map kV)) : Ev (tDNotInX P w K ty td) σ H (.bl (!(valV kvs k).isSome)) := fun H1 e Q q =>
  h2 H1 e _ fun H2 e2 => h1 H2 (e.trans e2) _ fun H3 e3 => ⟨a, kvs, b, k, rfl, rfl, g.ext ((e.trans e2).trans e3), ex_t ((e.trans e2).trans e3) hb, q H3 (e2.trans e3)⟩
theorem ep_dnewX : EvP (tDNewX P w) σ H (fun v H' => ∃ p, v = .ref p ∧ H p = none ∧ DAt P w K H' p []) := fun H1 e Q q p hp => q _ _ (Ex.new hp) ⟨p, rfl, fresh_back e hp, [], _, upd_same, .nil⟩
end
end KC
set_option Elab.async false
set_option linter.all false
set_option maxRecDepth 100000
set_option maxHeartbeats 4000000
/-! min(.., default=None); sorted of a dict with keys of ints; == of such dicts. -/
namespace KC
open PySem PySem.Spec PyProof.Rows L2 GX Evl
def minO : List Int → V
  | [] => .non
  | n :: ns => .int (ns.foldl min n)
def rMinN (K : PySem.W.Frag) : List V → List V → Hp → VK → Prop := fun xs zs H Q => ∃ (l : Addr) (ns : List Int), xs = [.ref l] ∧ zs = [.non] ∧ SqL K H l (ns.map V.int) ∧ Q (minO ns) H
theorem depthAll_ints : ∀ ns : List Int, PyData.depthAll (ns.map PyData.int) = 0
  | [] => rfl
  | n :: ns => by
    rw [List.map_cons]
    show max 0 (PyData.depthAll (ns.map PyData.int)) = 0
    rw [depthAll_ints ns]
    rfl
theorem alike_ints (ns : List Int) : PySem.W.AlikeAll (ns.map PyData.int) := by
  refine ⟨fun x hx y hy => ?_, fun x hx => ?_⟩
  · obtain ⟨i, _, rfl⟩ := List.mem_map.mp hx
    obtain ⟨j, _, rfl⟩ := List.mem_map.mp hy
    rfl
  · obtain ⟨i, _, rfl⟩ := List.mem_map.mp hx
    exact fun z => nomatch z
section
variable {X : Cx}
theorem cr_minN (hc : X.calm = true) (hu : X.A.units + 64 < cLine) : CallRK X (.builtin "min") [Str.ofString "default"] (rMinN X.K) := by
  intro pins s σ H xs zs us ws Q I r rz h
  obtain ⟨l, ns, rfl, rfl, hs, q⟩ := h
  obtain ⟨its, rv, hl, hz⟩ := I.list hs
  obtain ⟨u, rfl, ru⟩ := vals1 r
  obtain ⟨d, rfl, rd⟩ := vals1 rz
  cases ru
  cases rd
  obtain ⟨as, hr⟩ := Dp.readsAll I (ns.map PyData.int) _ its (dpAll_ints ns) rv
  refine PySem.W.min_list_default (I.ok.hd hc) hl.isList (by simpa using hr) (alike_ints ns) (by rw [depthAll_ints]; omega) (fun e h' tk k => ?_) (fun y ys i v h' tk bs e hi rd k => ?_)
  · have e2 : ns = [] := by simpa using e
    subst e2
    exact ⟨.non, H, I.kept k, rfl, q⟩
  · cases ns with
    | nil => simp at e
    | cons n ns =>
      rw [List.map_cons] at e
      injection e with e1 e2
      subst e1 e2
      rw [PySem.W.minD_ints] at rd
      cases rd with
      | int => exact ⟨.int _, H, I.kept k, ⟨_, rfl⟩, q⟩
end
/-! ### sorted(d) -/
section
variable {prog : Program} {w : World} {A : Around} {E : Value → Shared → Prop} {s : Shared}
theorem ints_of_items : ∀ {ns : List Int} {vs : List Value}, ItemsAre (mixKind prog w) (ns.map Sum.inl) vs → IntsAre vs ns
  | [], _, h => by cases h; exact .nil
  | n :: ns, _, h => by
    cases h with
    | cons h1 h2 =>
      rcases keyIs_shape (show keyIs (Sum.inl n) _ = true from h1) with ⟨i, t, ek, ev⟩ | ⟨z, t, ek, ev⟩
      · injection ek with ek
        subst ek ev
        exact .cons _ _ (ints_of_items h2)
      · exact nomatch ek
def IsTl (h : Heap) (v : Value) (ns : List Int) : Prop := ∃ a o items n, v = .ref a ∧ h.get? a = some o ∧ o.cls = .type "tuple" ∧ o.data = .seq items n ∧ IntsAre items.toList ns
theorem IsTl.keeps {h h' : Heap} {v : Value} {ns : List Int} (p : IsTl h v ns) (k : ∀ b o, h.get? b = some o → o.cls = .type "tuple" → h'.get? b = some o) : IsTl h' v ns := by
  obtain ⟨a, o, t, n, e, ho, hc, hd, hi⟩ := p
  exact ⟨a, o, t, n, e, k _ _ ho hc, hc, hd, hi⟩
theorem lex_tl {Q : Bool → Shared → Prop} : ∀ (vs ws : List Value) (ns ms : List Int) (i : Nat), IntsAre vs ns → IntsAre ws ms → ns.length = ms.length → Q (HT.lexLt ns ms) s → PySem.W.KatLex prog w A true false Q (vs.zip ws) i s
  | _, _, [], [], i, .nil, .nil, _, h => PySem.W.kat_nil h
  | _, _, [], _ :: _, _, _, _, hl, _ => by simp at hl
  | _, _, _ :: _, [], _, _, _, hl, _ => by simp at hl
  | _, _, n :: ns, m :: ms, i, .cons _ t h1, .cons _ u h2, hl, h => by
    rw [List.zip_cons_cons]
    rw [HT.lexLt_cons] at h
    refine PySem.W.kat_cons (SeqAt.EqAt.int_int n t m u prog w _ _ ?_)
    refine PySem.W.kat_go (fun e => ?_) (fun e => ?_)
    · have e : n = m := by simpa using e
      rw [if_pos e] at h
      exact PySem.W.kat_yes (lex_tl _ _ ns ms (i + 1) h1 h2 (by simpa using hl) h)
    · have e : ¬ n = m := by simpa using e
      rw [if_neg e] at h
      exact PySem.W.kat_no (TS.oneLt_ints _ h)
theorem tl_cmp {vs : List Value} {k : Value → List Int} {d : Nat} (hp : ∀ v ∈ vs, IsTl s.heap v (k v) ∧ (k v).length = d) : SrtO.Cmp prog w A s (tuples' true) (fun p => p.1 ∈ vs) (SrtO.lt2 fun v u => HT.lexLt (k v) (k u)) := by
  intro p q hm hm'
  obtain ⟨h1, l1⟩ := hp _ hm
  obtain ⟨h2, l2⟩ := hp _ hm'
  show wpAny (model prog w) A (keyLt' (tuples' true) p.1 q.1) (fun r s' => s' = s ∧ r = HT.lexLt (k p.1) (k q.1)) (fun _ _ => False) s
  generalize k p.1 = ns at h1 l1 ⊢
  generalize k q.1 = ms at h2 l2 ⊢
  obtain ⟨a, o, xs, n, e, ho, hc, hd, hi⟩ := h1
  obtain ⟨a', o', ys, n', e', ho', hc', hd', hi'⟩ := h2
  rw [e, e']
  refine PySem.W.kat_lt ho hd ho' hd' ?_
  have z1 : xs.size = ns.length := by rw [← hi.length]; simp
  have z2 : ys.size = ms.length := by rw [← hi'.length]; simp
  have ef : decide (xs.size < ys.size) = false := decide_eq_false (by omega)
  rw [ef]
  exact lex_tl _ _ ns ms 0 hi hi' (by omega) ⟨rfl, rfl⟩
theorem firsts_tl {h : Heap} {k : Value → List Int} : ∀ {vs : List Value}, (∀ v ∈ vs, IsTl h v (k v) ∧ 1 ≤ (k v).length) → ∃ fs : List Value, PySem.W.KatTups h vs fs ∧ fs.length = vs.length ∧ ∀ f ∈ fs, ∃ x t, f = Value.int x t
  | [], _ => ⟨[], PySem.W.KatTups.nil, rfl, fun _ hm => by simp at hm⟩
  | v :: vs, hp => by
    obtain ⟨fs, h1, h2, h3⟩ := firsts_tl (vs := vs) fun v' hm => hp v' (List.mem_cons_of_mem _ hm)
    obtain ⟨⟨a, o, xs, n, e, ho, hc, hd, hi⟩, hl⟩ := hp v (List.mem_cons_self ..)
    generalize k v = ns at hi hl
    subst e
    obtain ⟨ys⟩ := xs
    cases hi with
    | nil => simp at hl
    | cons x t hi =>
      refine ⟨.int x t :: fs, PySem.W.KatTups.cons ho hc hd rfl h1, by rw [List.length_cons, List.length_cons, h2], fun f hm => ?_⟩
      rcases List.mem_cons.mp hm with rfl | hm
      · exact ⟨x, t, rfl⟩
      · exact h3 f hm
theorem tl_sortable {a : Addr} {vs : List Value} {k : Value → List Int} {d : Nat} (h0 : 0 < vs.length) (h1 : 1 ≤ d) (hp : ∀ v ∈ vs, IsTl s.heap v (k v) ∧ (k v).length = d) (ha : ∀ o, s.heap.get? a = some o → o.cls ≠ .type "tuple") : SrtO.SortableO prog w A s a vs fun v u => HT.lexLt (k v) (k u) := by
  intro h' keep
  have hp' : ∀ v ∈ vs, IsTl h' v (k v) ∧ (k v).length = d := fun v hm => ⟨(hp v hm).1.keeps fun b o e c => keep b o (fun z => by subst z; exact ha o e c) e, (hp v hm).2⟩
  obtain ⟨fs, h1, h2, h3⟩ := firsts_tl (k := k) fun v hm => ⟨(hp' v hm).1, by rw [(hp' v hm).2]; exact h1⟩
  refine ⟨tuples' true, fun Q E hq => ?_, tl_cmp hp'⟩
  refine PySem.W.kat_kind (T := .type "int") h1 (by omega) (fun f hm => ?_) (by rfl) ?_
  · obtain ⟨x, t, rfl⟩ := h3 f hm
    exact PySem.W.Looks.now
  · have e : (Value.type "int" != Value.type "tuple") = true := by first | decide +kernel | rfl | decide
    rw [e]
    exact hq
end
def keyInts : List Key → List Int
  | [] => []
  | .inl i :: r => i :: keyInts r
  | .inr _ :: r => keyInts r
def stK (x y z : Int) : List Key := [.inl x, .inl y, .inl z]
def vKey (ks : List (List Key × Addr × Value)) : Value → List Int
  | .ref a => match ks.find? fun x => x.2.1 == a with
    | some x => keyInts x.1
    | none => []
  | _ => []
theorem acc_keys {P : Program} {w : World} {ks : List (List Key × Addr × Value)} {es : Array DictEntry} {acc : Array Value} (he : es.toList = ks.map (entryOfKey (tupleKind (mixKind P w)))) (h1 : acc.size = es.size) (h2 : ∀ (i : Nat) (v : Value), acc[i]? = some v → ∃ en : DictEntry, es[i]? = some en ∧ v = en.key) :
    acc.toList = (ks.map fun x => x.2.1).map Value.ref := by
  have l1 : es.size = ks.length := size_of_entries he
  rw [List.map_map]
  have hl : acc.toList.length = ks.length := by rw [Array.length_toList, h1]; exact l1
  apply List.ext_getElem?
  intro j
  rw [List.getElem?_map]
  cases hj : acc.toList[j]? with
  | none =>
    have h1 := List.getElem?_eq_none_iff.mp hj
    rw [List.getElem?_eq_none (by omega)]
    all_goals rfl
  | some v =>
    obtain ⟨en, hen, hv⟩ := h2 j v (by rw [← Array.getElem?_toList]; exact hj)
    have qe := entry_at he j
    rw [hen] at qe
    cases hb : ks[j]? with
    | none =>
      rw [hb] at qe
      exact nomatch (show some en = none from qe)
    | some b =>
      rw [hb] at qe
      have e2 : en = entryOfKey (tupleKind (mixKind P w)) b := Option.some.inj qe
      rw [hv, e2]
      all_goals rfl
def rSortX (P : Program) (w : World) (K : PySem.W.Frag) : List V → Hp → VK → Prop := fun xs H Q => ∃ d kvs, xs = [V.ref d] ∧ DAt P w K H d kvs ∧ (∀ kv ∈ kvs, ∃ x y z : Int, kv.1 = stK x y z) ∧
  ∀ (p : Addr) (bs cs : List Addr), H p = none → IsKeysX K H kvs bs → cs.Perm bs → (∃ g : Addr → List Int, (∀ (i : Nat) (kv : List Key × V) (b : Addr), kvs[i]? = some kv → bs[i]? = some b → g b = keyInts kv.1) ∧ cs.Pairwise fun a b => HT.lexLt (g b) (g a) = false) → Q (.ref p) (upd H p (.lst (cs.map V.ref)))
theorem ints_fun : ∀ {vs : List Value} {ns ms : List Int}, IntsAre vs ns → IntsAre vs ms → ns = ms
  | _, _, _, .nil, h => by cases h; rfl
  | _, _, _, .cons _ _ a, h => by
    cases h with
    | cons _ _ b => rw [ints_fun a b]
theorem refs_perm : ∀ {out : List Value}, (∀ v ∈ out, ∃ t, v = Value.ref t) → ∃ cs : List Addr, out = cs.map Value.ref
  | [], _ => ⟨[], rfl⟩
  | v :: out, h => by
    obtain ⟨t, e⟩ := h v List.mem_cons_self
    obtain ⟨cs, ec⟩ := refs_perm fun u hu => h u (List.mem_cons_of_mem _ hu)
    exact ⟨t :: cs, by rw [e, ec]; rfl⟩
def adX : Value → Addr
  | .ref a => a
  | _ => 0
theorem refs_inj {a b : List Addr} (h : (a.map Value.ref).Perm (b.map Value.ref)) : a.Perm b := by
  have q := h.map adX
  rw [List.map_map, List.map_map] at q
  have e : (adX ∘ Value.ref) = id := rfl
  rwa [e, List.map_id, List.map_id] at q
theorem vals_refs' : ∀ as : List Addr, Vals (as.map V.ref) (as.map Value.ref)
  | [] => .nil
  | _ :: as => .cons rfl (vals_refs' as)
section
variable {X : Cx}
theorem cr_sortedX (hc : X.calm = true) : CallR X (.builtin "sorted") (rSortX X.prog X.w X.K) := by
  intro pins s σ H xs us Q I r h
  obtain ⟨d, kvs, rfl, ⟨ks, o0, hd, pr⟩, hks, q⟩ := h
  obtain ⟨u, rfl, rx⟩ := r.one
  cases rx
  obtain ⟨z, hs, dd⟩ := dx_heap I hd pr
  obtain ⟨o, es, ep, ho, hx, hdt, he, hkk, hn⟩ := dd
  have l1 : es.size = ks.length := size_of_entries he
  have key3 : ∀ x ∈ ks, ∃ a b c : Int, x.1 = stK a b c := by
    have all : ∀ {l : List (List Key × V)} {m : List (List Key × Addr × Value)}, KX X.K H l m → (∀ kv ∈ l, ∃ x y z : Int, kv.1 = stK x y z) → ∀ x ∈ m, ∃ a b c : Int, x.1 = stK a b c := by
      intro l m q
      induction q with
      | nil => intro _ x hx; exact nomatch hx
      | @cons p q ps qs hq t ih =>
        intro hl x hx
        rcases List.mem_cons.mp hx with e | hx
        · subst e
          rw [← hq.1]
          exact hl p List.mem_cons_self
        · exact ih (fun kv hk => hl kv (List.mem_cons_of_mem _ hk)) x hx
    exact all pr hks
  have tl : ∀ v ∈ (ks.map fun x => x.2.1).map Value.ref, IsTl s.heap v (vKey ks v) ∧ (vKey ks v).length = 3 := fun v hv => by
    obtain ⟨a, ha, rfl⟩ := List.mem_map.mp hv
    obtain ⟨x, hxm, rfl⟩ := List.mem_map.mp ha
    have hf : ∃ x', ks.find? (fun y => y.2.1 == x.2.1) = some x' := by
      cases e : ks.find? (fun y => y.2.1 == x.2.1) with
      | some x' => exact ⟨x', rfl⟩
      | none => exact absurd (List.find?_eq_none.mp e x hxm) (by simp)
    obtain ⟨x', e⟩ := hf
    have em : x' ∈ ks := List.mem_of_find?_eq_some e
    have ea : x'.2.1 = x.2.1 := by simpa using List.find?_some e
    obtain ⟨i, j, k, e3⟩ := key3 x' em
    obtain ⟨o', its, n, h1, h2, h3, h4⟩ := hkk x' em
    have ev : vKey ks (.ref x.2.1) = [i, j, k] := by
      show (match ks.find? (fun y => y.2.1 == x.2.1) with | some x => keyInts x.1 | none => []) = _
      rw [e]
      show keyInts x'.1 = _
      rw [e3]
      rfl
    rw [ev]
    rw [e3] at h4
    rw [ea] at h1
    exact ⟨⟨x.2.1, o', its, n, rfl, h1, h2, h3, ints_of_items (ns := [i, j, k]) h4⟩, rfl⟩
  have vk : ∀ x ∈ ks, vKey ks (.ref x.2.1) = keyInts x.1 := fun x hxm => by
    have hf : ∃ x', ks.find? (fun y => y.2.1 == x.2.1) = some x' := by
      cases e : ks.find? (fun y => y.2.1 == x.2.1) with
      | some x' => exact ⟨x', rfl⟩
      | none => exact absurd (List.find?_eq_none.mp e x hxm) (by simp)
    obtain ⟨x', e⟩ := hf
    have em : x' ∈ ks := List.mem_of_find?_eq_some e
    have ea : x'.2.1 = x.2.1 := by simpa using List.find?_some e
    obtain ⟨i, j, k, e3⟩ := key3 x' em
    obtain ⟨i2, j2, k2, e32⟩ := key3 x hxm
    obtain ⟨o', its, n, h1, h2, h3, h4⟩ := hkk x' em
    obtain ⟨o2, its2, n2, g1, g2, g3, g4⟩ := hkk x hxm
    rw [ea, g1] at h1
    have h1 := Option.some.inj h1
    subst h1
    rw [g3] at h3
    injection h3 with h3 _
    subst h3
    rw [e3] at h4
    rw [e32] at g4
    have q1 := ints_of_items (ns := [i, j, k]) h4
    have q2 := ints_of_items (ns := [i2, j2, k2]) g4
    have q3 := ints_fun q1 q2
    show (match ks.find? (fun y => y.2.1 == x.2.1) with | some x => keyInts x.1 | none => []) = _
    rw [e]
    show keyInts x'.1 = keyInts x.1
    rw [e3, e32]
    exact q3
  refine Calls.call_function_entry PyProof.Rows.kind_sorted PyProof.Rows.plain_sorted PyProof.Rows.entry_sorted (PyProof.Rows.args_sorted1 _) ?_
  unfold Builtin.«sorted»
  refine wpAny_bind (m := checkCount "sorted" 1 1 _) (wpAny_pure ?_)
  refine wpAny_bind (PySem.W.kdu_collect (A := X.A.in1) (kdl_raw hs hx hdt) (I.ok.hd hc) ho (by omega) fun h' tk acc hk hacc => ?_)
  have ea : acc.toList = (ks.map fun x => x.2.1).map Value.ref := acc_keys he hacc.1 hacc.2
  have hal : acc.toList.length = ks.length := by rw [ea, List.length_map, List.length_map]
  have I1 : Inv X pins σ H { s with heap := h', toks := tk } := I.kept hk
  refine wpAny_bind (wpAny_newList ?_ (by rw [hal]; exact z))
  have hoL : (h'.push (seqObj "list" acc.toList.toArray 0)).get? h'.objs.size = some (seqObj "list" acc.toList.toArray 0) := Heap.get?_push_size _ rfl
  show wpAny _ _ _ _ _ { s with heap := h'.push (seqObj "list" acc.toList.toArray 0), toks := tk }
  refine wpAny_bind (wpAny_holding (wpAny_call_entry PyProof.Rows.slot_list_sort ⟨_, hoL, rfl⟩ PyProof.Rows.entry_list_sort
    (SrtO.list_sort_ord (s := { s with heap := h'.push (seqObj "list" acc.toList.toArray 0), toks := tk }) (NtL.swo_lexL (vKey ks)) hoL (by rw [hal]; exact z) (fun h2 => tl_sortable (d := 3) (by omega) (by decide) (fun v hv => ?_) fun o e => ?_) fun out hso hst => ⟨_, rfl, ?_⟩)
    (PyProof.Rows.args_list_sort _)))
  · rw [ea] at hv
    exact ⟨(tl v hv).1.keeps fun b o e _ => Heap.get?_push_of_some _ (hk b o e), (tl v hv).2⟩
  · have e' : some o = some (seqObj "list" acc.toList.toArray 0) := e.symm.trans hoL
    cases e'
    intro c
    exact absurd (Value.type.inj c) (by decide)
  · have hpm := hst.perm
    rw [ea] at hpm
    obtain ⟨cs, rfl⟩ := refs_perm (out := out) fun v hv => by
      obtain ⟨a, _, rfl⟩ := List.mem_map.mp (hpm.mem_iff.mp hv)
      exact ⟨a, rfl⟩
    have hcp := refs_inj hpm
    obtain ⟨e', he'⟩ := PyProof.Rows.sortedHeap_at (vs := acc.toList) (out := (cs.map Value.ref).toArray) hoL
    have hlen : (cs.map V.ref).length ≤ sizeLine := by
      rw [List.length_map, hcp.length_eq, List.length_map]
      exact z
    refine wpAny_pure ⟨_, rfl, .ref h'.objs.size, upd H h'.objs.size (.lst (cs.map V.ref)), I1.laid (t' := tk) (fun b u e => ?_) (Nat.le_refl _)
      (show ObjOk X.prog X.w _ _ _ (.lst (cs.map V.ref)) from ⟨hlen, cs.map Value.ref, e', vals_refs' cs, he'⟩), rfl, q _ _ cs (I1.hok.fresh (Nat.le_refl _)) (isKeysX_of pr) hcp ⟨fun a => vKey ks (.ref a), fun i kv b h1 h2 => ?_, ?_⟩⟩
    have hb : b < h'.objs.size := Heap.lt_size e
    rw [PyProof.Rows.sortedHeap_old (Nat.ne_of_lt hb) (by rw [size_push']; exact Nat.lt_succ_of_lt hb)]
    exact Heap.get?_push_of_some _ e
    · rw [List.getElem?_map] at h2
      cases e : ks[i]? with
      | none => rw [e] at h2; cases h2
      | some x =>
        rw [e] at h2
        have h2 := Option.some.inj h2
        subst h2
        show vKey ks (.ref x.2.1) = keyInts kv.1
        rw [vk x (List.mem_of_getElem? e)]
        have all : ∀ {l : List (List Key × V)} {m : List (List Key × Addr × Value)}, KX X.K H l m → ∀ (i : Nat) kv x, l[i]? = some kv → m[i]? = some x → kv.1 = x.1 := by
          intro l m q
          induction q with
          | nil => intro i kv x h _; simp at h
          | @cons p q ps qs hq t ih =>
            intro i kv x h1 h2
            cases i with
            | zero =>
              obtain rfl := Option.some.inj (show some _ = some _ from h1)
              obtain rfl := Option.some.inj (show some _ = some _ from h2)
              exact hq.1
            | succ i => exact ih i kv x (by simpa using h1) (by simpa using h2)
        rw [all pr i kv x h1 e]
    · have := hso
      unfold SrtO.Srtd at this
      rw [List.pairwise_map] at this
      exact this
end
end KC
set_option Elab.async false
set_option linter.all false
set_option maxRecDepth 100000
set_option maxHeartbeats 4000000
/-! == and != of two dicts with tuple keys that say the same. -/
namespace KC
open PySem PySem.Spec PyProof.Rows L2 GX Evl
section
variable {prog : Program} {w : World} {KT : Type} [DecidableEq KT] {knd : HeapKind prog w KT} {A : Around} {E : Value → Shared → Prop} {s : Shared}
theorem samePairsX {nm : String} {a b : Addr} {ka kb : List (KT × Addr × Value)} {Q : Bool → Shared → Prop} (ha : (a == sysModules) = false) (hb : (b == sysModules) = false) (hu : knd.room A)
    (da : s.heap.DictOfH knd a ka) (db : s.heap.DictOfH knd b kb) (hlen : ka.length = kb.length) (hits : ∀ x ∈ ka, ∃ y, atKey kb x.1 = some y ∧ SeqAt.EqP prog w A s x.2.2 y.2 true) (h : Q true s) :
    wpAny (model prog w) A (Builtin.Dict.samePairs nm a b) Q E s := by
  obtain ⟨oa, es, ep, hoa, _, hda, hea, hia, hna⟩ := da
  obtain ⟨ob, es', ep', hob, _, hdb, heb, hib, hnb⟩ := db
  have hla : es.size = ka.length := size_of_entries hea
  have hlb : es'.size = kb.length := size_of_entries heb
  have hsz : es.size = es'.size := by omega
  unfold Builtin.Dict.samePairs Builtin.Dict.showsAll
  rw [if_neg (show ¬ (a == sysModules) = true by rw [ha]; exact Bool.false_ne_true), if_neg (show ¬ (b == sysModules) = true by rw [hb]; exact Bool.false_ne_true)]
  refine wpAny_bind (wpAny_pure (wpAny_bind (wpAny_pure ?_)))
  refine wpAny_bind (wpAny_dictEntries hoa hda ?_)
  dsimp only
  refine wpAny_bind (wpAny_dictEntries hob hdb ?_)
  rw [if_neg (by rw [hsz]; simp)]
  refine wpAny_bind (wpAny_dictEpoch hoa hda ?_)
  refine wpAny_bind ?_
  rw [Std.Legacy.Range.forIn_eq_forIn_range']
  simp only [Std.Legacy.Range.size, Nat.sub_zero, Nat.add_sub_cancel, Nat.div_one]
  refine wpAny_forIn_list _
    (fun rest q s' => s' = s ∧ q = (none, ()) ∧ ∃ i, rest = List.range' i (es.size - i) ∧ i ≤ es.size)
    _ ?_ ?_ _ _ ⟨rfl, rfl, 0, by simp, Nat.zero_le _⟩
  · rintro x rest q s' ⟨rfl, rfl, i, hr, hi⟩
    have hlt : i < es.size := by
      rcases Nat.lt_or_ge i es.size with h | h
      · exact h
      · rw [Nat.sub_eq_zero_of_le h] at hr; simp at hr
    obtain ⟨rfl, hrest⟩ : x = i ∧ rest = List.range' (i + 1) (es.size - (i + 1)) := by
      have e : es.size - i = (es.size - (i + 1)) + 1 := by omega
      rw [e, List.range'_succ] at hr
      injection hr with h1 h2
      exact ⟨h1, h2⟩
    refine wpAny_bind (wpAny_dictEntries hoa hda ?_)
    have hlt' : x < ka.length := by omega
    have hen : es[x]? = some (entryOfKey knd ka[x]) := by rw [entry_at hea x, List.getElem?_eq_getElem hlt']; rfl
    have hm : ka[x] ∈ ka := List.getElem_mem hlt'
    generalize ka[x] = z at hen hm
    obtain ⟨y, hy, hq⟩ := hits z hm
    rw [hen]
    show wpAny _ _ (holding [Value.ref z.2.1, z.2.2] _ >>= _) _ _ _
    refine wpAny_bind (wpAny_holding (wpAny_bind (wpAny_dictFind_heap hu (hia z hm) hob hdb heb hib hnb (fun hno => ?_) fun j p hj => ?_)))
    · rw [atKey_none_of_get hno] at hy
      exact nomatch hy
    · rw [atKey_of_get hnb hj] at hy
      have hy := Option.some.inj hy
      subst hy
      refine wpAny_bind (wpAny_dictEntries hob hdb ?_)
      rw [entry_at heb j, hj]
      refine wpAny_holding (hq _ _ ?_)
      show wpAny _ _ (if (!true) = true then _ else _) _ _ _
      rw [if_neg (by decide)]
      refine wpAny_bind (wpAny_dictEpoch hoa hda ?_)
      rw [if_neg (by simp)]
      exact wpAny_pure ⟨rfl, rfl, x + 1, hrest, hlt⟩
  · rintro q s' ⟨rfl, rfl, i, hr, hi⟩
    exact wpAny_pure h
theorem eqX {a b : Addr} {ka kb : List (KT × Addr × Value)} {Q : Value → Shared → Prop} (ha : (a == sysModules) = false) (hb : (b == sysModules) = false) (hr : knd.room A.in1)
    (da : s.heap.DictOfH knd a ka) (db : s.heap.DictOfH knd b kb) (hu : A.units < cLine) (hlen : ka.length = kb.length) (hits : ∀ x ∈ ka, ∃ y, atKey kb x.1 = some y ∧ SeqAt.EqP prog w A.in1 s x.2.2 y.2 true) (h : Q (.bool true) s) :
    wpAny (model prog w) A (compareOp .Eq (.ref a) (.ref b)) Q E s := by
  refine wpAny_richCompare_same_room (op := .Eq) da.typeIs db.typeIs PySem.F.slot_dict_eq (wpAny_call_entry PySem.F.slot_dict_eq da.typeIs PySem.F.entry_dict_eq ?_ (PySem.F.args_dict_eq_2 _ _)) hu
  show wpAny _ _ (Builtin.Dict.dictSlotArgs "__eq__" ⟨[.ref a, .ref b], []⟩ >>= _) _ _ s
  refine wpAny_bind ?_
  unfold Builtin.Dict.dictSlotArgs
  refine wpAny_bind (wpAny_notOrdered_dict da.typeIs ?_)
  show wpAny _ _ (pure (Value.ref a, Value.ref b)) _ _ s
  refine wpAny_pure ?_
  refine wpAny_bind (wpAny_isInstance (T := "dict") db.typeIs PySem.F.sub_dict_dict ?_)
  simp only [Bool.not_true, Bool.false_eq_true, if_false]
  refine wpAny_bind (wpAny_pure (wpAny_bind (wpAny_pure ?_)))
  refine wpAny_bind (samePairsX ha hb hr da db hlen hits ?_)
  refine wpAny_pure ⟨_, rfl, ?_, ?_⟩
  · exact fun x => nomatch x
  · simpa using h
theorem neX {a b : Addr} {ka kb : List (KT × Addr × Value)} {Q : Value → Shared → Prop} (ha : (a == sysModules) = false) (hb : (b == sysModules) = false) (hr : knd.room A.in1)
    (da : s.heap.DictOfH knd a ka) (db : s.heap.DictOfH knd b kb) (hu : A.units < cLine) (hlen : ka.length = kb.length) (hits : ∀ x ∈ ka, ∃ y, atKey kb x.1 = some y ∧ SeqAt.EqP prog w A.in1 s x.2.2 y.2 true) (h : Q (.bool false) s) :
    wpAny (model prog w) A (compareOp .NotEq (.ref a) (.ref b)) Q E s := by
  refine wpAny_richCompare_same_room (op := .NotEq) da.typeIs db.typeIs PySem.F.slot_dict_ne (wpAny_call_entry PySem.F.slot_dict_ne da.typeIs PySem.F.entry_dict_ne ?_ (PySem.F.args_dict_ne_2 _ _)) hu
  show wpAny _ _ (Builtin.Dict.dictSlotArgs "__ne__" ⟨[.ref a, .ref b], []⟩ >>= _) _ _ s
  refine wpAny_bind ?_
  unfold Builtin.Dict.dictSlotArgs
  refine wpAny_bind (wpAny_notOrdered_dict da.typeIs ?_)
  show wpAny _ _ (pure (Value.ref a, Value.ref b)) _ _ s
  refine wpAny_pure ?_
  refine wpAny_bind (wpAny_isInstance (T := "dict") db.typeIs PySem.F.sub_dict_dict ?_)
  simp only [Bool.not_true, Bool.false_eq_true, if_false]
  refine wpAny_bind (wpAny_pure (wpAny_bind (wpAny_pure ?_)))
  refine wpAny_bind (samePairsX ha hb hr da db hlen hits ?_)
  refine wpAny_pure ⟨_, rfl, ?_, ?_⟩
  · exact fun x => nomatch x
  · simpa using h
end
/-- an int or None -/
def inB : V → Bool
  | .int _ => true
  | .non => true
  | _ => false
def rNeX (P : Program) (w : World) (K : PySem.W.Frag) : R2 := fun x y H Q => ∃ a b ks ls, x = .ref a ∧ y = .ref b ∧ DAt P w K H a ks ∧ DAt P w K H b ls ∧ ks.length = ls.length ∧ (∀ p ∈ ks, valV ls p.1 = some p.2 ∧ inB p.2 = true) ∧ Q (.bl false) H
section
variable {X : Cx}
theorem op_neX (hu : X.A.units + 64 < cLine) : OpR X (compareOp .NotEq) (rNeX X.prog X.w X.K) := by
  intro pins s σ H x y v u Q I rx ry h
  obtain ⟨a, b, ks, ls, rfl, rfl, ⟨xa, oa, ea, ra⟩, ⟨xb, ob, eb, rb⟩, hlen, hp, q⟩ := h
  obtain rfl : v = Value.ref a := rx
  obtain rfl : u = Value.ref b := ry
  obtain ⟨_, sa, da⟩ := dx_heap I ea ra
  obtain ⟨_, sb, db⟩ := dx_heap I eb rb
  refine neX sa sb (tupleKind_room_in1 (by omega)) da db (by omega) (by have h1 := Paired.length ra; have h2 := Paired.length rb; omega) ?_ ⟨.bl false, H, I, rfl, q⟩
  have all : ∀ {l : List (List Key × V)} {m : List (List Key × Addr × Value)}, KX X.K H l m → (∀ p ∈ l, valV ls p.1 = some p.2 ∧ inB p.2 = true) → ∀ x ∈ m, ∃ y, atKey xb x.1 = some y ∧ SeqAt.EqP X.prog X.w X.A.in1 s x.2.2 y.2 true := by
    intro l m qq
    induction qq with
    | nil => intro _ x hx; exact nomatch hx
    | @cons p q ps qs hq t ih =>
      intro hl x hx
      rcases List.mem_cons.mp hx with e | hx
      · subst e
        obtain ⟨h1, h2⟩ := hl p List.mem_cons_self
        obtain ⟨k1, _, k3⟩ := hq
        rw [k1] at h1
        obtain ⟨w', hw, rw'⟩ := RelO.some_of (v := p.2) (o := (atKey xb x.1).map (·.2)) (by rw [← h1]; exact rb.val x.1)
        obtain ⟨y, hy, hy2⟩ := Option.map_eq_some_iff.mp hw
        refine ⟨y, hy, SeqAt.EqAt.eqP ?_⟩
        rw [hy2]
        generalize p.2 = pv at h2 k3 rw'
        generalize x.2.2 = xv at k3
        cases pv with
        | int i =>
          obtain ⟨t1, rfl⟩ := k3
          obtain ⟨t2, rfl⟩ := rw'
          have := SeqAt.EqAt.int_int (A := X.A.in1) (s := s) i t1 i t2
          simpa using this
        | non =>
          cases k3
          cases rw'
          exact SeqAt.EqAt.same _
        | _ => exact nomatch h2
      · exact ih (fun p hk => hl p (List.mem_cons_of_mem _ hk)) x hx
  exact all ra hp
end
/-! ### readings -/
section
variable {P : Program} {w : World} {K : PySem.W.Frag} {σ : L2.St} {H : Hp} {td ty tv ta tb : TE} {D : Ends} {tz : TS} {a b : Addr} {kvs ls : List (List Key × V)} {k : List Key} {v : V}
theorem ev_neX (h1 : Ev ta σ H (.ref a)) (h2 : Ev tb σ H (.ref b)) (ha : DAt P w K H a kvs) (hb : DAt P w K H b ls) (hl : kvs.length = ls.length) (hp : ∀ p ∈ kvs, valV ls p.1 = some p.2 ∧ inB p.2 = true) : Ev (tOp (rNeX P w K) ta tb) σ H (.bl false) := fun H1 e Q q =>
  h1 H1 e _ fun H2 e2 => h2 H2 (e.trans e2) _ fun H3 e3 => ⟨a, b, kvs, ls, rfl, rfl, ha.ext ((e.trans e2).trans e3), hb.ext ((e.trans e2).trans e3), hl, hp, q H3 (e2.trans e3)⟩
theorem ev_minN {l : Addr} {ns : List Int} (h : EvL ta σ H (ns.map V.int)) (h2 : ∀ H1, Ex H H1 → Ev tb σ H1 .non) : Ev (tCKw (rMinN K) (tCons ta tNil) (tCons tb tNil)) σ H (minO ns) := fun H1 e Q q =>
  h H1 e _ fun p H2 hp e2 hl => h2 H2 (e.trans e2) H2 (Ex.refl _) _ fun H3 e3 => ⟨p, ns, rfl, rfl, sq_of (e3 p _ hl), q H3 (e2.trans e3)⟩
end
end KC
set_option Elab.async false
set_option linter.all false
set_option maxRecDepth 100000
set_option maxHeartbeats 4000000
/-! New lists of data, dicts written to, extend, reversed. -/
namespace KC
open PySem PySem.Spec PyProof.Rows L2 GX Evl
def EvLD (K : PySem.W.Frag) (te : TE) (σ : L2.St) (H : Hp) (ds : List PyData) : Prop := ∀ H1, Ex H H1 → ∀ Q : VK, (∀ p vs H2, H1 p = none → Ex H1 H2 → H2 p = some (.lst vs) → DpAll K H2 vs ds → Q (.ref p) H2) → te σ H1 Q
def RetLD (K : PySem.W.Frag) (ds : List PyData) (H : Hp) (Q : VK) : Prop := ∀ p vs H2, H p = none → Ex H H2 → H2 p = some (.lst vs) → DpAll K H2 vs ds → Q (.ref p) H2
def SpLD (K : PySem.W.Frag) (sp : Sp) (vs : List V) (H : Hp) (ds : List PyData) : Prop := ∀ H1, Ex H H1 → ∀ Q : VK, (∀ p xs H2, H1 p = none → Ex H1 H2 → H2 p = some (.lst xs) → DpAll K H2 xs ds → Q (.ref p) H2) → ∀ E : XK, sp vs H1 Q E
mutual
theorem Dp.keepT {K : PySem.W.Frag} {H H' : Hp} (hk : ∀ b ys, SqT K H b ys → SqT K H' b ys) : ∀ (d : PyData) (v : V), noList d = true → Dp K H v d → Dp K H' v d
  | .none, _, _, h => by cases h; exact .non
  | .bool b, _, _, h => by cases h; exact .bl b
  | .int i, _, _, h => by cases h; exact .int i
  | .str x, _, _, h => by cases h; exact .str x
  | .list _, _, z, _ => by simp [noList] at z
  | .tuple ds, _, z, h => by
    cases h with
    | tup h1 h2 => exact .tup (hk _ _ h1) (DpAll.keepT hk ds _ (by simpa [noList] using z) h2)
  | .dict _, _, _, h => by cases h
theorem DpAll.keepT {K : PySem.W.Frag} {H H' : Hp} (hk : ∀ b ys, SqT K H b ys → SqT K H' b ys) : ∀ (ds : List PyData) (vs : List V), noListAll ds = true → DpAll K H vs ds → DpAll K H' vs ds
  | [], _, _, h => by cases h; exact .nil
  | d :: ds, _, z, h => by
    cases h with
    | cons h1 h2 =>
      simp only [noListAll, Bool.and_eq_true] at z
      exact .cons (Dp.keepT hk d _ z.1 h1) (DpAll.keepT hk ds _ z.2 h2)
end
theorem sqt_but {K : PySem.W.Frag} {H H' : Hp} {a b : Addr} {ys : List V} {φ : Heap → Prop} (e : H a = some (.ext φ)) (k : ∀ c, c ≠ a → H' c = H c) (h : SqT K H b ys) : SqT K H' b ys := by
  rcases h with (h | ⟨ob, h⟩) | h
  · exact .inl (.inl (by rw [k b (fun z => by rw [z, e] at h; cases h)]; exact h))
  · exact .inl (.inr ⟨ob, by rw [k b (fun z => by rw [z, e] at h; cases h)]; exact h⟩)
  · exact .inr h
theorem DAt.isX {P : Program} {w : World} {K : PySem.W.Frag} {H : Hp} {a : Addr} {kvs : List (List Key × V)} (h : DAt P w K H a kvs) : ∃ φ, H a = some (.ext φ) := by
  obtain ⟨xs, o, h1, _⟩ := h
  exact ⟨_, h1⟩
theorem DAt.put {P : Program} {w : World} {K : PySem.W.Frag} {H : Hp} {a l : Addr} {kvs : List (List Key × V)} {zs ys : List V} (h : DAt P w K H a kvs) (hl : H l = some (.lst zs)) : DAt P w K (upd H l (.lst ys)) a kvs := by
  obtain ⟨xs, o, h1, h2⟩ := h
  exact ⟨xs, o, by rw [upd_ne (fun e => by rw [e, hl] at h1; cases h1)]; exact h1, h2.keeps fun b zs z => sqt_put z hl⟩
theorem DAt.but {P : Program} {w : World} {K : PySem.W.Frag} {H H' : Hp} {a d : Addr} {kvs ls : List (List Key × V)} (h : DAt P w K H a kvs) (hd : DAt P w K H d ls) (k : ∀ c, c ≠ d → H' c = H c) (ne : a ≠ d) : DAt P w K H' a kvs := by
  obtain ⟨xs, o, h1, h2⟩ := h
  obtain ⟨φ, e⟩ := hd.isX
  exact ⟨xs, o, by rw [k a ne]; exact h1, h2.keeps fun b zs z => sqt_but e k z⟩
theorem ex_but {H H1 H2 : Hp} {d : Addr} (e : Ex H H1) (h : H d = none) (k : ∀ c, c ≠ d → H2 c = H1 c) : Ex H H2 := fun b o hb => by
  have ne : b ≠ d := fun z => by rw [z, h] at hb; cases hb
  rw [k b ne]
  exact e b o hb
section
variable {P : Program} {w : World} {K : PySem.W.Frag} {σ : L2.St} {H H' : Hp} {td ty tv ta tb te tl : TE} {D : Ends} {tz tu : TS} {a b : Addr} {kvs ls : List (List Key × V)} {k : List Key} {v : V} {ds : List PyData}
theorem EvLD.mono (e : Ex H H') (h : EvLD K te σ H ds) : EvLD K te σ H' ds := fun H1 a Q q => h H1 (e.trans a) Q q
theorem eld_call {sp : Sp} {dvs vs : List V} {E : XK} {ta : TA} (h : EvA ta σ H vs) (hs : SpLD K sp (vs ++ dvs) H ds) : EvLD K (tCall sp dvs E ta) σ H ds := fun H1 e Q q =>
  h H1 e _ fun H2 e2 => hs H2 (e.trans e2) Q (fun p xs H3 hp e3 h3 hd => q p xs H3 (fresh_back e2 hp) (e2.trans e3) h3 hd) E
theorem s_dput (h : Ev tv σ H v) (h1 : Ev td σ H (.ref a)) (h2 : Ev ty σ H (.ref b)) (g : DAt P w K H a kvs) (hb : SqT K H b (k.map kV)) (hl : kvs.length < 100000)
    (q : ∀ H1 H2, Ex H H1 → DAt P w K H2 a (putK kvs k v) → (∀ c, c ≠ a → H2 c = H1 c) → D.nx σ H2) : sDPutX P w K td ty tv D σ H :=
  h H (Ex.refl H) _ fun H1 e1 => h1 H1 e1 _ fun H2 e2 => h2 H2 (e1.trans e2) _ fun H3 e3 => ⟨a, kvs, b, k, rfl, rfl, g.ext ((e1.trans e2).trans e3), ex_t ((e1.trans e2).trans e3) hb, sz_lt hl, fun H4 hd hk => q H3 H4 ((e1.trans e2).trans e3) hd hk⟩
theorem s_dputLD (h : EvLD K tv σ H ds) (h1 : Ev td σ H (.ref a)) (h2 : Ev ty σ H (.ref b)) (g : DAt P w K H a kvs) (hb : SqT K H b (k.map kV)) (hl : kvs.length < 100000)
    (q : ∀ p vs H1 H2, H p = none → Ex H H1 → H1 p = some (.lst vs) → DpAll K H1 vs ds → DAt P w K H2 a (putK kvs k (.ref p)) → (∀ c, c ≠ a → H2 c = H1 c) → D.nx σ H2) : sDPutX P w K td ty tv D σ H :=
  h H (Ex.refl H) _ fun p vs H1 hp e1 hv hd => h1 H1 e1 _ fun H2 e2 => h2 H2 (e1.trans e2) _ fun H3 e3 => ⟨a, kvs, b, k, rfl, rfl, g.ext ((e1.trans e2).trans e3), ex_t ((e1.trans e2).trans e3) hb, sz_lt hl, fun H4 hd4 hk => q p vs H3 H4 hp ((e1.trans e2).trans e3) ((e2.trans e3) p _ hv) (DpAll.ext (e2.trans e3) _ _ hd) hd4 hk⟩
theorem q_dput (h : Ev tv σ H v) (h1 : Ev td σ H (.ref a)) (h2 : Ev ty σ H (.ref b)) (g : DAt P w K H a kvs) (hb : SqT K H b (k.map kV)) (hl : kvs.length < 100000)
    (q : ∀ H1 H2, Ex H H1 → DAt P w K H2 a (putK kvs k v) → (∀ c, c ≠ a → H2 c = H1 c) → tz D σ H2) : tSeq (sDPutX P w K td ty tv) tz D σ H := s_dput (D := { D with nx := tz D }) h h1 h2 g hb hl q
theorem q_dputLD (h : EvLD K tv σ H ds) (h1 : Ev td σ H (.ref a)) (h2 : Ev ty σ H (.ref b)) (g : DAt P w K H a kvs) (hb : SqT K H b (k.map kV)) (hl : kvs.length < 100000)
    (q : ∀ p vs H1 H2, H p = none → Ex H H1 → H1 p = some (.lst vs) → DpAll K H1 vs ds → DAt P w K H2 a (putK kvs k (.ref p)) → (∀ c, c ≠ a → H2 c = H1 c) → tz D σ H2) : tSeq (sDPutX P w K td ty tv) tz D σ H := s_dputLD (D := { D with nx := tz D }) h h1 h2 g hb hl q
theorem s_dnew {i : Nat} (q : ∀ p H1, H p = none → Ex H H1 → DAt P w K H1 p [] → D.nx (σ.set i (some (.ref p))) H1) : tAsg (tDNewX P w) (gName i) D σ H := fun p hp => q p _ hp (Ex.new hp) ⟨[], _, upd_same, .nil⟩
theorem q_dnew {i : Nat} (q : ∀ p H1, H p = none → Ex H H1 → DAt P w K H1 p [] → tz D (σ.set i (some (.ref p))) H1) : tSeq (tAsg (tDNewX P w) (gName i)) tz D σ H := s_dnew (D := { D with nx := tz D }) q
/-- l.extend(xs), xs new -/
theorem s_extL {l : Addr} {xs ys : List V} (hl : H l = some (.lst xs)) (ha : Ev ta σ H (.ref l)) (h : EvL te σ H ys) (hz : xs.length + ys.length ≤ 1000000) (q : ∀ p H1, H p = none → Ex H H1 → H1 p = some (.lst ys) → D.nx σ (upd H1 l (.lst (xs ++ ys)))) :
    tDrop (tBM K "list" rExtend ta (tCons te tNil)) D σ H := ha H (Ex.refl H) _ fun H1 e1 =>
  ⟨.inl ⟨rfl, xs, sq_of (e1 l _ hl)⟩, h H1 e1 _ fun p H2 hp e2 h2 => ⟨l, p, xs, ys, rfl, rfl, (e1.trans e2) l _ hl, h2, by rw [sizeLine_eq]; omega, q p H2 (fresh_back e1 hp) (e1.trans e2) h2⟩⟩
/-- a list's truth -/
theorem et_truL {xs : List V} (h : Ev ta σ H (.ref a)) (hx : SqL K H a xs) : EvT (fun σ H Q => ta σ H fun x H' => ∃ k, TruV K x H' k ∧ Q k H') σ H (!xs.isEmpty) := fun H1 e Q q =>
  h H1 e _ fun H2 e2 => ⟨_, .inl ⟨xs, ex_l (e.trans e2) hx, rfl⟩, q H2 e2⟩
/-- x is None, x is not None -/
theorem ev_isN (h : Ev ta σ H v) (hn : Ev tb σ H .non) : Ev (tOp (fun x y H Q => y = .non ∧ Q (.bl (decide (x = .non))) H) ta tb) σ H (.bl (decide (v = .non))) := ev_op h hn fun H1 _ Q q => (show V.non = .non ∧ Q (.bl (decide (v = .non))) H1 from ⟨rfl, q H1 (Ex.refl H1)⟩)
theorem ev_notN (h : Ev ta σ H v) (hn : Ev tb σ H .non) : Ev (tOp (fun x y H Q => y = .non ∧ Q (.bl (!decide (x = .non))) H) ta tb) σ H (.bl (!decide (v = .non))) := ev_op h hn fun H1 _ Q q => (show V.non = .non ∧ Q (.bl (!decide (v = .non))) H1 from ⟨rfl, q H1 (Ex.refl H1)⟩)
/-- for x in reversed(l), l new, whatever it holds -/
theorem s_forRevX {C : List V → Prop} {ta : TA} {j : Nat} (h : ∀ Q : List V → Hp → Prop, (∀ p xs H1, H p = none → Ex H H1 → H1 p = some (.lst xs) → C xs → Q [.ref p] H1) → ta σ H Q) (Pv : List V → Addr → Nat → L2.St → Hp → Prop) (h0 : ∀ xs p H1, H p = none → Ex H H1 → H1 p = some (.lst xs) → C xs → Pv xs p 0 σ H1) (hl : ∀ xs p i σ' H', i ≤ xs.length → Pv xs p i σ' H' → SqL K H' p xs)
    (hs : ∀ xs p i x σ' H', C xs → xs[xs.length - 1 - i]? = some x → i < xs.length → Pv xs p i σ' H' → tu { D with nx := Pv xs p (i + 1), ct := Pv xs p (i + 1), bk := D.nx } (σ'.set j (some x)) H') (hd : ∀ xs p σ' H', C xs → Pv xs p xs.length σ' H' → D.nx σ' H') : tFor (iRev K ta) (gName j) tu D σ H := by
  refine h _ fun p xs H1 hp e1 h1 hc => ⟨p, xs, rfl, sq_of h1, ?_⟩
  refine ⟨fun i m σ H => m = xs.length - i ∧ i ≤ xs.length ∧ Pv xs p i σ H, ⟨xs.length, by simp, Nat.zero_le _, h0 xs p H1 hp e1 h1 hc⟩, ?_⟩
  rintro i m σ H ⟨rfl, hi, pv⟩
  have q := hl xs p i σ H hi pv
  by_cases hlt : i < xs.length
  · have hx : xs[xs.length - 1 - i]? = some (xs[xs.length - 1 - i]'(by omega)) := List.getElem?_eq_getElem (by omega)
    refine .inr ⟨⟨hlt, xs, _, q, hx⟩, Pv xs p (i + 1), fun σ' H' p' => ⟨xs.length - (i + 1), by omega, rfl, hlt, p'⟩, fun x H' y => ?_⟩
    obtain ⟨rfl, hy⟩ := y
    exact hs xs p i x σ _ hc (hy xs q) hlt pv
  · have : i = xs.length := by omega
    subst this
    exact .inl ⟨Nat.le_refl _, hd xs p σ H hc pv⟩
theorem q_forRevX {C : List V → Prop} {ta : TA} {j : Nat} (h : ∀ Q : List V → Hp → Prop, (∀ p xs H1, H p = none → Ex H H1 → H1 p = some (.lst xs) → C xs → Q [.ref p] H1) → ta σ H Q) (Pv : List V → Addr → Nat → L2.St → Hp → Prop) (h0 : ∀ xs p H1, H p = none → Ex H H1 → H1 p = some (.lst xs) → C xs → Pv xs p 0 σ H1) (hl : ∀ xs p i σ' H', i ≤ xs.length → Pv xs p i σ' H' → SqL K H' p xs)
    (hs : ∀ xs p i x σ' H', C xs → xs[xs.length - 1 - i]? = some x → i < xs.length → Pv xs p i σ' H' → tu { D with nx := Pv xs p (i + 1), ct := Pv xs p (i + 1), bk := tz D } (σ'.set j (some x)) H') (hd : ∀ xs p σ' H', C xs → Pv xs p xs.length σ' H' → tz D σ' H') : tSeq (tFor (iRev K ta) (gName j) tu) tz D σ H :=
  s_forRevX (D := { D with nx := tz D }) h Pv h0 hl hs hd
end
end KC
set_option Elab.async false
set_option linter.all false
set_option maxRecDepth 100000
set_option maxHeartbeats 4000000
namespace K16L
open PySem PySem.Spec PyProof.Rows L2 GX KC Evl
def topS (i : Nat) : Stmt := PySem.Challenge.pw_kraftroom_k16_forms_of_a_block.main.body.getD i (.Pass ⟨0, 0, 0, 0⟩)
abbrev s_wall : Stmt := topS 0
theorem sc_wall : FnScope ["k"] ["k"] (defScope s_wall) := ⟨rfl, rfl, rfl, by decide +kernel, rfl, by decide +kernel, by decide +kernel⟩
abbrev s_field_bits : Stmt := topS 2
theorem sc_field_bits : FnScope ["number", "width", "at"] ["number", "width"] (defScope s_field_bits) := ⟨rfl, rfl, rfl, by decide +kernel, rfl, by decide +kernel, by decide +kernel⟩
abbrev s_gamma_bits : Stmt := topS 4
theorem sc_gamma_bits : FnScope ["n", "count"] ["n"] (defScope s_gamma_bits) := ⟨rfl, rfl, rfl, by decide +kernel, rfl, by decide +kernel, by decide +kernel⟩
abbrev s_narrowed : Stmt := topS 7
theorem sc_narrowed : FnScope ["span", "model", "symbol", "low", "width", "whole", "total"] ["span", "model", "symbol"] (defScope s_narrowed) := ⟨rfl, rfl, rfl, by decide +kernel, rfl, by decide +kernel, by decide +kernel⟩
abbrev s_interval : Stmt := topS 8
theorem sc_interval : FnScope ["model", "message", "teller", "span", "symbol"] ["model", "message"] (defScope s_interval) := ⟨rfl, rfl, rfl, by decide +kernel, rfl, by decide +kernel, by decide +kernel⟩
abbrev s_least_exponent : Stmt := topS 9
theorem sc_least_exponent : FnScope ["width", "whole", "exponent"] ["width", "whole"] (defScope s_least_exponent) := ⟨rfl, rfl, rfl, by decide +kernel, rfl, by decide +kernel, by decide +kernel⟩
abbrev s_holds : Stmt := topS 10
theorem sc_holds : FnScope ["span", "number", "count", "low", "width", "whole"] ["span", "number", "count"] (defScope s_holds) := ⟨rfl, rfl, rfl, by decide +kernel, rfl, by decide +kernel, by decide +kernel⟩
abbrev s_first_number : Stmt := topS 11
theorem sc_first_number : FnScope ["span", "count", "low", "_", "whole"] ["span", "count"] (defScope s_first_number) := ⟨rfl, rfl, rfl, by decide +kernel, rfl, by decide +kernel, by decide +kernel⟩
abbrev s_encode_message : Stmt := topS 12
theorem sc_encode_message : FnScope ["model", "message", "span", "count"] ["model", "message"] (defScope s_encode_message) := ⟨rfl, rfl, rfl, by decide +kernel, rfl, by decide +kernel, by decide +kernel⟩
abbrev s_ranks : Stmt := topS 15
theorem sc_ranks : FnScope ["weights", "order", "_", "symbol"] ["weights"] (defScope s_ranks) := ⟨rfl, rfl, rfl, by decide +kernel, rfl, by decide +kernel, by decide +kernel⟩
abbrev s_rests : Stmt := topS 16
theorem sc_rests : FnScope ["weights", "sums", "weight"] ["weights"] (defScope s_rests) := ⟨rfl, rfl, rfl, by decide +kernel, rfl, by decide +kernel, by decide +kernel⟩
abbrev s_word_counts : Stmt := topS 17
theorem sc_word_counts : FnScope ["limit", "depth", "free", "left"] ["limit", "depth", "free", "left"] (defScope s_word_counts) := ⟨rfl, rfl, rfl, by decide +kernel, rfl, by decide +kernel, by decide +kernel⟩
abbrev s_stage_choices : Stmt := topS 18
theorem sc_stage_choices : FnScope ["sums", "limit", "stage", "depth", "m", "free", "left", "found", "a"] ["sums", "limit", "stage"] (defScope s_stage_choices) := ⟨rfl, rfl, rfl, by decide +kernel, rfl, by decide +kernel, by decide +kernel⟩
abbrev s_reached_stages : Stmt := topS 19
theorem sc_reached_stages : FnScope ["weights", "limit", "sums", "found", "waiting", "following", "stage", "choice"] ["weights", "limit"] (defScope s_reached_stages) := ⟨rfl, rfl, rfl, by decide +kernel, rfl, by decide +kernel, by decide +kernel⟩
abbrev s_least_sum : Stmt := topS 20
theorem sc_least_sum : FnScope ["choice", "known", "_", "price", "following"] ["choice", "known"] (defScope s_least_sum) := ⟨rfl, rfl, rfl, by decide +kernel, rfl, by decide +kernel, by decide +kernel⟩
abbrev s_stage_values : Stmt := topS 21
theorem sc_stage_values : FnScope ["stages", "known", "stage", "sums", "choice", "total"] ["stages"] (defScope s_stage_values) := ⟨rfl, rfl, rfl, by decide +kernel, rfl, by decide +kernel, by decide +kernel⟩
abbrev s_least_lengths : Stmt := topS 22
theorem sc_least_lengths : FnScope ["weights", "limit", "stages", "known", "order", "lengths", "stage", "depth", "m", "_", "best", "choice", "a", "symbol"] ["weights", "limit"] (defScope s_least_lengths) := ⟨rfl, rfl, rfl, by decide +kernel, rfl, by decide +kernel, by decide +kernel⟩
abbrev s_low_in : Stmt := topS 24
theorem sc_low_in : FnScope ["weights", "symbol"] ["weights", "symbol"] (defScope s_low_in) := ⟨rfl, rfl, rfl, by decide +kernel, rfl, by decide +kernel, by decide +kernel⟩
abbrev s_Counts_init : Stmt := inClass (topS 25) 0
theorem sc_Counts_init : FnScope ["self", "weights"] ["self", "weights"] (defScope s_Counts_init) := ⟨rfl, rfl, rfl, by decide +kernel, rfl, by decide +kernel, by decide +kernel⟩
abbrev s_Counts_size : Stmt := inClass (topS 25) 1
theorem sc_Counts_size : FnScope ["self"] ["self"] (defScope s_Counts_size) := ⟨rfl, rfl, rfl, by decide +kernel, rfl, by decide +kernel, by decide +kernel⟩
abbrev s_Counts_total : Stmt := inClass (topS 25) 2
theorem sc_Counts_total : FnScope ["self"] ["self"] (defScope s_Counts_total) := ⟨rfl, rfl, rfl, by decide +kernel, rfl, by decide +kernel, by decide +kernel⟩
abbrev s_Counts_low : Stmt := inClass (topS 25) 3
theorem sc_Counts_low : FnScope ["self", "symbol"] ["self", "symbol"] (defScope s_Counts_low) := ⟨rfl, rfl, rfl, by decide +kernel, rfl, by decide +kernel, by decide +kernel⟩
abbrev s_Counts_weight : Stmt := inClass (topS 25) 4
theorem sc_Counts_weight : FnScope ["self", "symbol"] ["self", "symbol"] (defScope s_Counts_weight) := ⟨rfl, rfl, rfl, by decide +kernel, rfl, by decide +kernel, by decide +kernel⟩
abbrev s_Counts_symbol_at : Stmt := inClass (topS 25) 5
theorem sc_Counts_symbol_at : FnScope ["self", "number"] ["self", "number"] (defScope s_Counts_symbol_at) := ⟨rfl, rfl, rfl, by decide +kernel, rfl, by decide +kernel, by decide +kernel⟩
abbrev s_Counts_learn : Stmt := inClass (topS 25) 6
theorem sc_Counts_learn : FnScope ["self", "symbol"] ["self", "symbol"] (defScope s_Counts_learn) := ⟨rfl, rfl, rfl, by decide +kernel, rfl, by decide +kernel, by decide +kernel⟩
abbrev s_Counts_fresh : Stmt := inClass (topS 25) 7
theorem sc_Counts_fresh : FnScope ["self"] ["self"] (defScope s_Counts_fresh) := ⟨rfl, rfl, rfl, by decide +kernel, rfl, by decide +kernel, by decide +kernel⟩
abbrev s_Learner_init : Stmt := inClass (topS 26) 0
theorem sc_Learner_init : FnScope ["self", "size", "step", "limit"] ["self", "size", "step", "limit"] (defScope s_Learner_init) := ⟨rfl, rfl, rfl, by decide +kernel, rfl, by decide +kernel, by decide +kernel⟩
abbrev s_Learner_size : Stmt := inClass (topS 26) 1
theorem sc_Learner_size : FnScope ["self"] ["self"] (defScope s_Learner_size) := ⟨rfl, rfl, rfl, by decide +kernel, rfl, by decide +kernel, by decide +kernel⟩
abbrev s_Learner_total : Stmt := inClass (topS 26) 2
theorem sc_Learner_total : FnScope ["self"] ["self"] (defScope s_Learner_total) := ⟨rfl, rfl, rfl, by decide +kernel, rfl, by decide +kernel, by decide +kernel⟩
abbrev s_Learner_low : Stmt := inClass (topS 26) 3
theorem sc_Learner_low : FnScope ["self", "symbol"] ["self", "symbol"] (defScope s_Learner_low) := ⟨rfl, rfl, rfl, by decide +kernel, rfl, by decide +kernel, by decide +kernel⟩
abbrev s_Learner_weight : Stmt := inClass (topS 26) 4
theorem sc_Learner_weight : FnScope ["self", "symbol"] ["self", "symbol"] (defScope s_Learner_weight) := ⟨rfl, rfl, rfl, by decide +kernel, rfl, by decide +kernel, by decide +kernel⟩
abbrev s_Learner_symbol_at : Stmt := inClass (topS 26) 5
theorem sc_Learner_symbol_at : FnScope ["self", "number"] ["self", "number"] (defScope s_Learner_symbol_at) := ⟨rfl, rfl, rfl, by decide +kernel, rfl, by decide +kernel, by decide +kernel⟩
abbrev s_Learner_learn : Stmt := inClass (topS 26) 6
theorem sc_Learner_learn : FnScope ["self", "symbol", "weight"] ["self", "symbol"] (defScope s_Learner_learn) := ⟨rfl, rfl, rfl, by decide +kernel, rfl, by decide +kernel, by decide +kernel⟩
abbrev s_Learner_fresh : Stmt := inClass (topS 26) 7
theorem sc_Learner_fresh : FnScope ["self"] ["self"] (defScope s_Learner_fresh) := ⟨rfl, rfl, rfl, by decide +kernel, rfl, by decide +kernel, by decide +kernel⟩
abbrev s_words : Stmt := topS 28
theorem sc_words : FnScope ["lengths", "found", "number", "depth", "order", "length", "symbol"] ["lengths"] (defScope s_words) := ⟨rfl, rfl, rfl, by decide +kernel, rfl, by decide +kernel, by decide +kernel⟩
abbrev s_write_symbols : Stmt := topS 29
theorem sc_write_symbols : FnScope ["lengths", "message", "table", "symbol", "bit"] ["lengths", "message"] (defScope s_write_symbols) := ⟨rfl, rfl, rfl, by decide +kernel, rfl, by decide +kernel, by decide +kernel⟩
abbrev s_symbol_width : Stmt := topS 36
theorem sc_symbol_width : FnScope ["size"] ["size"] (defScope s_symbol_width) := ⟨rfl, rfl, rfl, by decide +kernel, rfl, by decide +kernel, by decide +kernel⟩
abbrev s_block_counts : Stmt := topS 37
theorem sc_block_counts : FnScope ["size", "block", "counts", "symbol"] ["size", "block"] (defScope s_block_counts) := ⟨rfl, rfl, rfl, by decide +kernel, rfl, by decide +kernel, by decide +kernel⟩
abbrev s_block_lengths : Stmt := topS 38
theorem sc_block_lengths : FnScope ["counts", "occurring", "symbol", "count", "lengths", "found", "length"] ["counts"] (defScope s_block_lengths) := ⟨rfl, rfl, rfl, by decide +kernel, rfl, by decide +kernel, by decide +kernel⟩
abbrev s_model_bits : Stmt := topS 39
theorem sc_model_bits : FnScope ["model", "block", "code"] ["model", "block"] (defScope s_model_bits) := ⟨rfl, rfl, rfl, by decide +kernel, rfl, by decide +kernel, by decide +kernel⟩
abbrev s_field_body : Stmt := topS 40
theorem sc_field_body : FnScope ["size", "block", "width", "symbol", "bit"] ["size", "block"] (defScope s_field_body) := ⟨rfl, rfl, rfl, by decide +kernel, rfl, by decide +kernel, by decide +kernel⟩
abbrev s_prefix_body : Stmt := topS 41
theorem sc_prefix_body : FnScope ["size", "block", "lengths", "told", "length", "bit"] ["size", "block"] (defScope s_prefix_body) := ⟨rfl, rfl, rfl, by decide +kernel, rfl, by decide +kernel, by decide +kernel⟩
abbrev s_counts_body : Stmt := topS 42
theorem sc_counts_body : FnScope ["size", "block", "counts", "told", "count", "bit"] ["size", "block"] (defScope s_counts_body) := ⟨rfl, rfl, rfl, by decide +kernel, rfl, by decide +kernel, by decide +kernel⟩
abbrev s_learner_body : Stmt := topS 43
theorem sc_learner_body : FnScope ["size", "block"] ["size", "block"] (defScope s_learner_body) := ⟨rfl, rfl, rfl, by decide +kernel, rfl, by decide +kernel, by decide +kernel⟩
abbrev s_body : Stmt := topS 45
theorem sc_body : FnScope ["size", "block", "form", "make"] ["size", "block", "form"] (defScope s_body) := ⟨rfl, rfl, rfl, by decide +kernel, rfl, by decide +kernel, by decide +kernel⟩
abbrev s_write_block : Stmt := topS 46
theorem sc_write_block : FnScope ["size", "block", "start", "bodies", "form", "counts", "bits"] ["size", "block"] (defScope s_write_block) := ⟨rfl, rfl, rfl, by decide +kernel, rfl, by decide +kernel, by decide +kernel⟩
abbrev s_law_cell : Stmt := topS 48
theorem sc_law_cell : FnScope ["script", "k"] ["script", "k"] (defScope s_law_cell) := ⟨rfl, rfl, rfl, by decide +kernel, rfl, by decide +kernel, by decide +kernel⟩
abbrev s_law_block : Stmt := topS 49
theorem sc_law_block : FnScope ["script", "first", "most", "size", "cell", "block", "k", "one", "symbol", "j"] ["script", "first", "most", "size"] (defScope s_law_block) := ⟨rfl, rfl, rfl, by decide +kernel, rfl, by decide +kernel, by decide +kernel⟩
abbrev s_law_gamma : Stmt := topS 50
theorem sc_law_gamma : FnScope ["n", "width", "k"] ["n"] (defScope s_law_gamma) := ⟨rfl, rfl, rfl, by decide +kernel, rfl, by decide +kernel, by decide +kernel⟩
abbrev s_law_width : Stmt := topS 51
theorem sc_law_width : FnScope ["size", "width", "k"] ["size"] (defScope s_law_width) := ⟨rfl, rfl, rfl, by decide +kernel, rfl, by decide +kernel, by decide +kernel⟩
abbrev s_law_lengths : Stmt := topS 52
theorem sc_law_lengths : FnScope ["counts", "present", "k", "lengths", "count", "found"] ["counts"] (defScope s_law_lengths) := ⟨rfl, rfl, rfl, by decide +kernel, rfl, by decide +kernel, by decide +kernel⟩
abbrev s_law_body : Stmt := topS 53
theorem sc_law_body : FnScope ["size", "block", "form", "width", "bits", "symbol", "k", "counts", "one", "lengths", "length", "code", "count"] ["size", "block", "form"] (defScope s_law_body) := ⟨rfl, rfl, rfl, by decide +kernel, rfl, by decide +kernel, by decide +kernel⟩
abbrev s_law : Stmt := topS 54
theorem sc_law : FnScope ["script", "size", "block", "given", "counts", "k", "one", "best", "bodies", "form", "found"] ["script"] (defScope s_law) := ⟨rfl, rfl, rfl, by decide +kernel, rfl, by decide +kernel, by decide +kernel⟩
section
variable {P : Program} {w : World} {K : PySem.W.Frag} {mg : Str → Option Value} {base : Heap}
/-! ### the weights -/
def weightOf (c : Int) : Int := if c % 23 = 7 then c / 23 % 1000001 else if c % 5 = 1 then c / 5 % 100 else c % 9
def weightsL (ns : List Int) (first n : Nat) : List Int := (List.range n).map fun k => weightOf (cellOf ns (first + k))
theorem weightsL_succ (ns : List Int) (first n : Nat) : weightsL ns first (n + 1) = weightsL ns first n ++ [weightOf (cellOf ns (first + n))] := by
  unfold weightsL
  rw [List.range_succ, List.map_append] <;> rfl
theorem weightsL_len (ns : List Int) (first n : Nat) : (weightsL ns first n).length = n := by simp [weightsL]
def spWeights (K : PySem.W.Frag) : Sp := fun vs H Q _ => ∃ (l : Addr) (ns : List Int) (first n : Nat), vs = [.ref l, .int (first : Int), .int (n : Int)] ∧ SqL K H l (ns.map V.int) ∧ n ≤ 1000 ∧ RetL ((weightsL ns first n).map V.int) H Q
theorem spv_cell {H : Hp} {l : Addr} {ns : List Int} {z : Int} {j : Nat} (hs : SqL K H l (ns.map V.int)) (e : z = (j : Int)) : SpV (spCell K) ([.ref l, .int z] ++ []) H (.int (cellOf ns j)) := fun H1 e1 Q q E => ⟨l, ns, j, by rw [e]; rfl, ex_l e1 hs, q H1 (Ex.refl H1)⟩
end
end K16L
set_option Elab.async false
set_option linter.all false
set_option maxRecDepth 100000
set_option maxHeartbeats 4000000
namespace K16L
open PySem PySem.Spec PyProof.Rows L2 GX KC Evl M03
section
variable {P : Program} {w : World} {K : PySem.W.Frag} {mg : Str → Option Value} {base : Heap}
def nats (ks : List Nat) : List V := ks.map fun (k : Nat) => V.int (k : Int)
theorem nats_app (a b : List Nat) : nats (a ++ b) = nats a ++ nats b := List.map_append
theorem nats_len (a : List Nat) : (nats a).length = a.length := List.length_map _
theorem nats_flat (a : List Nat) : (nats a).all flatV = true := by
  rw [List.all_eq_true]
  intro x hx
  obtain ⟨k, _, e⟩ := List.mem_map.mp hx
  rw [← e]
  rfl
theorem nats_in (i : Nat) (a : List Nat) : inV (.int (i : Int)) (nats a) = decide (i ∈ a) := by
  induction a with
  | nil => rfl
  | cons k r ih =>
    have e : inV (.int (i : Int)) (nats (k :: r)) = (eqV (.int (k : Int)) (.int (i : Int)) || inV (.int (i : Int)) (nats r)) := rfl
    rw [e, ih]
    have e2 : eqV (.int (k : Int)) (.int (i : Int)) = decide (k = i) := by
      by_cases h : k = i
      · subst h
        rw [decide_eq_true rfl]
        simp [eqV]
      · rw [decide_eq_false h]
        simp [eqV]
        omega
    rw [e2]
    by_cases h : k = i
    · simp [h]
    · have h' : ¬ i = k := fun z => h z.symm
      simp [h, h']
def oV : Option Nat → V
  | none => .non
  | some b => .int (b : Int)
def spRanks (K : PySem.W.Frag) : Sp := fun vs H Q _ => ∃ (l : Addr) (ws : List Int), vs = [.ref l] ∧ SqL K H l (ws.map V.int) ∧ ws.length ≤ 64 ∧ RetL (nats (rankL ws)) H Q
theorem rv_notIn {p : Addr} {i : Nat} {ord : List Nat} {H : Hp} (h : SqL K H p (nats ord)) : RV (rIn K true) (.int (i : Int)) (.ref p) H (.bl (!decide (i ∈ ord))) := by
  have q := rv_niL (x := .int (i : Int)) h rfl (nats_flat ord)
  rw [nats_in] at q
  exact q
end
end K16L
set_option linter.all false
namespace M03
def llimAt (many : Nat) : Nat → Nat
  | 0 => 1
  | i + 1 => if 2 ^ llimAt many i < many then llimAt many i + 1 else llimAt many i
theorem llimAt_le (many : Nat) : ∀ i, 1 ≤ llimAt many i ∧ llimAt many i ≤ i + 1
  | 0 => ⟨Nat.le_refl _, Nat.le_refl _⟩
  | i + 1 => by
    have h := llimAt_le many i
    unfold llimAt
    split <;> omega
def llim (many : Nat) : Nat := llimAt many 6
def sumsL (ws : List Int) : List Int := restL (ranked ws)
theorem restL_get0 (vs : List Int) : (restL vs).getD 0 0 = (restL vs).headD 0 := by
  cases vs <;> rfl
theorem sumsL_len (ws : List Int) : (sumsL ws).length = ws.length + 1 := by rw [sumsL, restL_len, ranked_len]
theorem drop_step {vs : List Int} {i : Nat} (h : i < vs.length) : restL (vs.drop i) = (vs.getD i 0 + (restL (vs.drop (i + 1))).headD 0) :: restL (vs.drop (i + 1)) := by
  rw [List.drop_eq_getElem_cons h]
  show (vs[i] + _) :: _ = _
  rw [List.getD_eq_getElem?_getD, List.getElem?_eq_getElem h]
  rfl
theorem ranked_at {ws : List Int} {i : Nat} (h : i < ws.length) : (ranked ws).getD i 0 = wAt ws ((rankL ws).getD i 0) := by
  have h1 : i < (rankL ws).length := by rw [rank_len]; exact h
  unfold ranked
  rw [List.getD_eq_getElem?_getD, List.getElem?_map, List.getD_eq_getElem?_getD, List.getElem?_eq_getElem h1]
  rfl
/-- the sums grow from the least weight on -/
theorem asc_step (vs : List Int) (i : Nat) (h : i < vs.length) : (restL (vs.reverse.drop (vs.length - (i + 1)))).reverse = (restL (vs.reverse.drop (vs.length - i))).reverse ++ [((restL (vs.reverse.drop (vs.length - i))).reverse).getLastD 0 + vs.getD i 0] := by
  have h1 : vs.length - (i + 1) < vs.reverse.length := by rw [List.length_reverse]; omega
  have e1 := drop_step h1
  have e2 : vs.length - (i + 1) + 1 = vs.length - i := by omega
  rw [e2] at e1
  rw [e1, List.reverse_cons]
  congr 1
  have e3 : vs.reverse.getD (vs.length - (i + 1)) 0 = vs.getD i 0 := by
    rw [List.getD_eq_getElem?_getD, List.getD_eq_getElem?_getD, List.getElem?_reverse (by omega)]
    congr 2
    omega
  rw [e3]
  generalize restL (vs.reverse.drop (vs.length - i)) = L
  have e4 : L.reverse.getLastD 0 = L.headD 0 := by
    cases L <;> simp
  rw [e4, Int.add_comm]
/-- what the program counts at a stage -/
def wc (limit depth free left : Int) : List Int :=
  if depth = 0 then [0] else if limit ≤ depth then (if left ≤ free then [left] else []) else (List.range ((if left < free then left else free) + 1).toNat).map fun (i : Nat) => (i : Int)
def chOf (sums : List Int) (depth m free : Int) (a : Int) : Option (Int × Int × Nxt) :=
  let left : Int := (sums.length : Int) - 1 - m
  if a = left then some (a, 0, none)
  else if a ≠ free then some (a, sums.getD (m + a).toNat 0, some (depth + 1, m + a, if left - a < 2 * (free - a) then left - a else 2 * (free - a)))
  else none
def chP (sums : List Int) (limit depth m free : Int) : List (Int × Int × Nxt) := (wc limit depth free ((sums.length : Int) - 1 - m)).filterMap (chOf sums depth m free)
/-- a stage -/
structure StOk (sums : List Int) (limit depth m k : Int) : Prop where
  l : 1 ≤ limit
  d : 0 ≤ depth ∧ depth ≤ limit
  m : 0 ≤ m ∧ m < (sums.length : Int) - 1
  k : 1 ≤ k
theorem filterMap_single {α β : Type} (f : α → Option β) (l : List α) (a : α) (hm : a ∈ l) (hn : l.Nodup) (h : ∀ b ∈ l, b ≠ a → f b = none) : l.filterMap f = (f a).toList := by
  induction l with
  | nil => simp at hm
  | cons x r ih =>
    have hn' := List.nodup_cons.mp hn
    by_cases e : x = a
    · subst e
      have h2 : r.filterMap f = [] := by
        rw [List.filterMap_eq_nil_iff]
        intro b hb
        exact h b (List.mem_cons_of_mem _ hb) fun z => hn'.1 (by rw [← z]; exact hb)
      rw [List.filterMap_cons, h2]
      cases f x <;> rfl
    · have hm' : a ∈ r := by
        rcases List.mem_cons.mp hm with z | z
        · exact absurd z.symm e
        · exact z
      rw [List.filterMap_cons, h x List.mem_cons_self e, ih hm' hn'.2 fun b hb => h b (List.mem_cons_of_mem _ hb)]
theorem fm_congr {α β : Type} {f g : α → Option β} : ∀ {l : List α}, (∀ a ∈ l, f a = g a) → l.filterMap f = l.filterMap g
  | [], _ => rfl
  | x :: r, h => by
    rw [List.filterMap_cons, List.filterMap_cons, h x List.mem_cons_self, fm_congr fun a ha => h a (List.mem_cons_of_mem _ ha)]
theorem ch_same {sums : List Int} {limit depth m k : Int} (h : StOk sums limit depth m k) : chP sums limit depth m k = chL sums limit depth m k := by
  obtain ⟨hl, hd, hm, hk⟩ := h
  unfold chP chL
  generalize hn : (sums.length : Int) - 1 = n at *
  have hN : chN sums m k = ((if n - m < k then n - m else k) + 1).toNat := by unfold chN; rw [hn]
  have one : ∀ a : Nat, chOne sums limit depth m k a = if (if depth = limit then decide ((a : Int) = n - m) else (decide (0 < depth) || decide ((a : Int) = 0))) && decide (m + a = n) then some ((a : Int), 0, none)
      else if (if depth = limit then decide ((a : Int) = n - m) else (decide (0 < depth) || decide ((a : Int) = 0))) && decide ((a : Int) < k) then some ((a : Int), sums.getD (m + a).toNat 0, some (depth + 1, m + a, if n - m - a < 2 * (k - a) then n - m - a else 2 * (k - a))) else none := fun a => by
    unfold chOne; rw [hn]
  have two : ∀ a : Int, chOf sums depth m k a = if a = n - m then some (a, 0, none) else if a ≠ k then some (a, sums.getD (m + a).toNat 0, some (depth + 1, m + a, if n - m - a < 2 * (k - a) then n - m - a else 2 * (k - a))) else none := fun a => by
    unfold chOf; rw [hn]
  unfold wc
  by_cases h0 : depth = 0
  · rw [if_pos h0]
    have hdl : depth ≠ limit := by omega
    rw [filterMap_single (chOne sums limit depth m k) (List.range (chN sums m k)) 0 (List.mem_range.mpr (by rw [hN]; split <;> omega)) List.nodup_range fun b hb hb0 => ?_]
    · have e3 : chOf sums depth m k 0 = chOne sums limit depth m k 0 := by
        rw [one, two]
        rw [if_neg (by omega : ¬ ((0 : Int) = n - m)), if_pos (by omega : (0 : Int) ≠ k), if_neg hdl]
        have a1 : (((decide (0 < depth) || decide (((0 : Nat) : Int) = 0)) && decide (m + ((0 : Nat) : Int) = n)) = true) = False := by
          simp only [Bool.and_eq_true, decide_eq_true_eq, eq_iff_iff, iff_false]
          omega
        have a2 : (((decide (0 < depth) || decide (((0 : Nat) : Int) = 0)) && decide (((0 : Nat) : Int) < k)) = true) = True := by
          simp only [Bool.and_eq_true, Bool.or_eq_true, decide_eq_true_eq, eq_iff_iff, iff_true]
          omega
        simp only [a1, a2, if_false, if_true]
        rfl
      rw [List.filterMap_cons, e3]
      cases chOne sums limit depth m k 0 <;> rfl
    · rw [one]
      have e2 : ((b : Int) = 0) = False := by
        rw [eq_iff_iff, iff_false]; omega
      have e3 : (0 < depth) = False := by
        rw [eq_iff_iff, iff_false]; omega
      simp only [hdl, if_false, e2, e3, decide_false, Bool.or_false, Bool.false_and, Bool.false_eq_true]
  · rw [if_neg h0]
    by_cases h1 : limit ≤ depth
    · have hdl : depth = limit := by omega
      subst hdl
      rw [if_pos h1]
      by_cases h2 : n - m ≤ k
      · rw [if_pos h2, filterMap_single (chOne sums depth depth m k) (List.range (chN sums m k)) (n - m).toNat (List.mem_range.mpr (by rw [hN]; split <;> omega)) List.nodup_range fun b hb hb0 => ?_]
        · have e1 : (((n - m).toNat : Nat) : Int) = n - m := by omega
          rw [one, e1]
          have e2 : m + (n - m) = n := by omega
          simp [e2, two]
        · rw [one]
          have e1 : ¬ ((b : Int) = n - m) := by omega
          simp [e1]
      · rw [if_neg h2, List.filterMap_nil]
        symm
        rw [List.filterMap_eq_nil_iff]
        intro b hb
        have hb' := List.mem_range.mp hb
        rw [hN] at hb'
        rw [if_neg (by omega)] at hb'
        rw [one]
        have e1 : ¬ ((b : Int) = n - m) := by omega
        simp [e1]
    · rw [if_neg h1, hN, List.filterMap_map]
      have hdl : depth ≠ limit := by omega
      have hd0 : 0 < depth := by omega
      refine fm_congr fun b hb => ?_
      have hb' := List.mem_range.mp hb
      have hb2 : (b : Int) ≤ k := by
        by_cases q : n - m < k
        · rw [if_pos q] at hb'; omega
        · rw [if_neg q] at hb'; omega
      have hb3 : (b : Int) ≤ n - m := by
        by_cases q : n - m < k
        · rw [if_pos q] at hb'; omega
        · rw [if_neg q] at hb'; omega
      show chOf sums depth m k (b : Int) = _
      rw [one, two]
      simp only [hdl, if_false, hd0, decide_true, Bool.true_or, Bool.true_and, decide_eq_true_eq]
      by_cases q1 : (b : Int) = n - m
      · rw [if_pos q1, if_pos (by omega)]
      · rw [if_neg q1]
        have e5 : ¬ (m + (b : Int) = n) := by omega
        rw [if_neg e5]
        by_cases q2 : (b : Int) = k
        · have e6 : ¬ ((b : Int) < k) := by omega
          simp [q2]
        · have e6 : (b : Int) < k := by omega
          simp [q2, e6]
end M03
set_option Elab.async false
set_option linter.all false
set_option maxRecDepth 100000
set_option maxHeartbeats 4000000
namespace K16L
open PySem PySem.Spec PyProof.Rows L2 GX KC Evl M03
section
variable {P : Program} {w : World} {K : PySem.W.Frag} {mg : Str → Option Value} {base : Heap}
/-! the least limit -/
def spLim : Sp := fun vs H Q _ => ∃ n : Nat, vs = [.int (n : Int)] ∧ ∀ H2, Ex H H2 → Q (.int (llim n : Nat)) H2
theorem llimAt_lt (n : Nat) : ∀ i, i ≤ 6 → (llimAt n i : Nat) ≤ 7 := fun i hi => by
  have := (llimAt_le n i).2
  omega
/-! the sums -/
def spSums (K : PySem.W.Frag) : Sp := fun vs H Q _ => ∃ (l : Addr) (ws : List Int), vs = [.ref l] ∧ SqL K H l (ws.map V.int) ∧ ws.length ≤ 64 ∧ RetL ((sumsL ws).map V.int) H Q
theorem sp_ranks {H : Hp} {l : Addr} {ws : List Int} (hs : SqL K H l (ws.map V.int)) (hn : ws.length ≤ 64) : SpL (spRanks K) ([.ref l] ++ []) H (nats (rankL ws)) := fun H1 e1 Q q E =>
  ⟨l, ws, rfl, ex_l e1 hs, hn, fun p H2 hp e2 h2 => q p H2 hp e2 h2⟩
theorem nats_at {a : List Nat} {i : Nat} {z : Int} (e : z = (i : Int)) (h : i < a.length) : atI (nats a) z = some (.int (a.getD i 0 : Nat)) := by
  refine at_of e ?_
  unfold nats
  rw [List.getElem?_map, List.getElem?_eq_getElem h, List.getD_eq_getElem?_getD, List.getElem?_eq_getElem h]
  rfl
theorem sums_cons {L : List Int} {i : Nat} {ws : List Int} (h : i < ws.length) : restL ((ranked ws).drop i) = ((restL ((ranked ws).drop (i + 1))).getD 0 0 + wAt ws ((rankL ws).getD i 0)) :: restL ((ranked ws).drop (i + 1)) := by
  rw [drop_step (by rw [ranked_len]; exact h), ranked_at h, restL_get0, Int.add_comm]
/-! a stage's choices -/
def nxD : Nxt → PyData
  | none => .none
  | some (d, m, k) => .tuple [.int d, .int m, .int k]
def chD : Int × Int × Nxt → PyData
  | (a, c, n) => .tuple [.int a, .int c, nxD n]
theorem chD_noList (x : Int × Int × Nxt) : noList (chD x) = true := by
  obtain ⟨a, c, n⟩ := x
  cases n <;> rfl
def chsD (xs : List (Int × Int × Nxt)) : List PyData := xs.map chD
structure StIn (K : PySem.W.Frag) (sums : List Int) (l t : Addr) (limit depth m k : Int) (H : Hp) : Prop where
  sq : SqL K H l (sums.map V.int)
  st : SqT K H t [.int depth, .int m, .int k]
  ok : StOk sums limit depth m k
  len : sums.length ≤ 1000
  kk : k ≤ 1000
def spCh (K : PySem.W.Frag) (g : List Int → Int → Int → Int → Int → List (Int × Int × Nxt)) : Sp := fun vs H Q _ => ∃ (l t : Addr) (sums : List Int) (limit depth m k : Int), vs = [.ref l, .int limit, .ref t] ∧ StIn K sums l t limit depth m k H ∧ RetLD K (chsD (g sums limit depth m k)) H Q
theorem q_unp {σ : L2.St} {H : Hp} {te : TE} {D : Ends} {tz : TS} {n : Nat} {t : TGs} {a : Addr} {xs : List V} (h : Ev te σ H (.ref a)) (hx : SqT K H a xs) (hl : xs.length = n) (k : ∀ H1, Ex H H1 → t xs σ H1 (tz D)) : tSeq (tAsg te (gTup K n t)) tz D σ H :=
  h H (Ex.refl H) _ fun H1 e1 => ⟨a, xs, rfl, ex_t e1 hx, hl, k H1 e1⟩
theorem dp_app {H : Hp} {p : Addr} {vs : List V} {ds : List PyData} {v : V} {d : PyData} (hl : H p = some (.lst vs)) (hd : DpAll K H vs ds) (hv : Dp K H v d) (hn : noListAll ds = true) (hn2 : noList d = true) : DpAll K (upd H p (.lst (vs ++ [v]))) (vs ++ [v]) (ds ++ [d]) :=
  DpAll.app (DpAll.put hl ds vs hn hd) (Dp.put hl d v hn2 hv)
theorem fm_succ {α : Type} (f : Nat → Option α) (i : Nat) : (List.range (i + 1)).filterMap f = (List.range i).filterMap f ++ (f i).toList := by
  rw [List.range_succ, List.filterMap_append, List.filterMap_cons, List.filterMap_nil]
  cases f i <;> rfl
theorem chsD_noList (xs : List (Int × Int × Nxt)) : noListAll (chsD xs) = true := noListAll_map chD_noList xs
theorem fm_len {α β : Type} (f : α → Option β) (l : List α) : (l.filterMap f).length ≤ l.length := List.length_filterMap_le f l
end
end K16L
set_option Elab.async false
set_option linter.all false
set_option maxRecDepth 100000
set_option maxHeartbeats 4000000
namespace K16L
open PySem PySem.Spec PyProof.Rows L2 GX KC Evl M03
section
variable {P : Program} {w : World} {K : PySem.W.Frag} {mg : Str → Option Value} {base : Heap}
def spWc : Sp := fun vs H Q _ => ∃ (limit depth free left : Int), vs = [.int limit, .int depth, .int free, .int left] ∧ 0 ≤ left ∧ left ≤ 1000 ∧ 0 ≤ free ∧ RetL ((wc limit depth free left).map V.int) H Q
theorem el_rg1 {σ : L2.St} {H : Hp} {ta : TE} {n : Int} (h : Ev ta σ H (.int n)) (hn : 0 ≤ n ∧ n ≤ 100000) : EvL (tLstRg (tRg1 ta)) σ H (((List.range n.toNat).map fun (i : Nat) => (i : Int)).map V.int) := fun H1 e Q q =>
  h H1 e _ fun H2 e2 => ⟨n, rfl, RgOk.of_le (by omega) (by omega) (by omega) (by omega), fun p hp => by
    refine q p _ (fresh_back e2 hp) (e2.trans (Ex.new hp)) ?_
    rw [upd_same]
    congr 2
    unfold rgV
    rw [List.map_map, Int.sub_zero]
    refine List.map_congr_left fun i _ => ?_
    show V.int (0 + (i : Int)) = V.int (i : Int)
    rw [Int.zero_add]⟩
theorem ok_word_counts {f : Addr} {fd : FuncData} {k : Nat} (F : Fun K "word_counts" "word_counts" s_word_counts f fd) (B : Bs mg) : FnOk P w K mg base CX0 (k + 1) f fd ["limit", "depth", "free", "left"] spWc := by
  refine F.ok sc_word_counts (fun vs H Q E h => ?_) (fun cdv A outer s H vs Q E hr h => ?_)
  · obtain ⟨a, b, c, d, rfl, _⟩ := h
    rfl
  · obtain ⟨limit, depth, free, left, rfl, h1, h2, h3, q⟩ := h
    refine ⟨_, (pss_cons (ps_if (pt_cmpR op_eq (pv 1) pe_int (nomark _)) (pss_one (ps_ret (pe_lst (pa_cons pe_int pa_nil)))) pss_nil)
      (pss_cons (ps_if (pt_cmpR op_ge (pv 1) (pv 0) (nomark _)) (pss_one (ps_ret (pe_ifExp (pt_cmpR op_le (pv 3) (pv 2) (nomark _)) (pe_lst (pa_cons (pv 3) pa_nil)) (pe_lst pa_nil)))) pss_nil)
      (pss_one (ps_ret (pe_listRg rfl (by rfl) B.list (prg_1 (by rfl) B.range (pe_op op_add (pe_callB (call_min2 rfl) (by rfl) B.min (by decide +kernel) (pa_cons (pv 2) (pa_cons (pv 3) pa_nil))) pe_int))))))), ?_⟩
    unfold wc at q
    refine q_when (et_test (ev_eq (ev_var rfl) ev_c)) (fun hb H1 e1 => ?_) (fun hb H1 e1 => ?_)
    · rw [if_pos (of_decide_eq_true hb)] at q
      exact s_retL (el_lst (ea1 ev_c) (by decide)) fun p H2 hp e2 h2 => q p H2 (fresh_back e1 hp) (e1.trans e2) h2
    · rw [if_neg (of_decide_eq_false hb)] at q
      refine q_when (et_test (ev_op (ev_var rfl) (ev_var rfl) rv_I0)) (fun hb H2 e2 => ?_) (fun hb H2 e2 => ?_)
      · rw [if_pos (of_decide_eq_true hb)] at q
        by_cases hl : left ≤ free
        · rw [if_pos hl] at q
          exact s_retL (el_if (b := true) (et_is (et_test (ev_op (ev_var rfl) (ev_var rfl) rv_I0)) (decide_eq_true hl)) (fun _ => el_lst (ea1 (ev_var rfl)) (by show 1 ≤ 100000; decide)) (fun z => by cases z)) fun p H3 hp e3 h3 => q p H3 (fresh_back (e1.trans e2) hp) ((e1.trans e2).trans e3) h3
        · rw [if_neg hl] at q
          exact s_retL (el_if (b := false) (et_is (et_test (ev_op (ev_var rfl) (ev_var rfl) rv_I0)) (decide_eq_false hl)) (fun z => by cases z) (fun _ => el_lst ea_nil (by decide))) fun p H3 hp e3 h3 => q p H3 (fresh_back (e1.trans e2) hp) ((e1.trans e2).trans e3) h3
      · rw [if_neg (of_decide_eq_false hb)] at q
        exact s_retL (el_rg1 (ev_add (ev_min (ev_var rfl) (ev_var rfl)) ev_c) ⟨by split <;> omega, by split <;> omega⟩) fun p H3 hp e3 h3 => q p H3 (fresh_back (e1.trans e2) hp) ((e1.trans e2).trans e3) h3
theorem wc_mem {limit depth free left a : Int} (h0 : 0 ≤ left) (h : a ∈ wc limit depth free left) : 0 ≤ a ∧ a ≤ left := by
  unfold wc at h
  split at h
  · rw [List.mem_singleton] at h; omega
  · split at h
    · split at h
      · rw [List.mem_singleton] at h; omega
      · simp at h
    · obtain ⟨i, hi, rfl⟩ := List.mem_map.mp h
      have := List.mem_range.mp hi
      split at this <;> omega
theorem wc_len {limit depth free left : Int} (h2 : left ≤ 1000) : (wc limit depth free left).length ≤ 1001 := by
  unfold wc
  split
  · decide
  · split
    · split <;> simp
    · rw [List.length_map, List.length_range]
      split <;> omega
theorem fm_take {α β : Type} (f : α → Option β) (l : List α) {i : Nat} {x : α} (h : l[i]? = some x) : (l.take (i + 1)).filterMap f = (l.take i).filterMap f ++ (f x).toList := by
  rw [List.take_succ, h, List.filterMap_append]
  show _ ++ [x].filterMap f = _
  rw [List.filterMap_cons, List.filterMap_nil]
  cases f x <;> rfl
theorem ok_stage_choices {f : Addr} {fd : FuncData} {k : Nat} (F : Fun K "stage_choices" "stage_choices" s_stage_choices f fd) (B : Bs mg) (C_word_counts : Cal P w K mg base "word_counts" 1 ["limit", "depth", "free", "left"] spWc) : FnOk P w K mg base CX0 (k + 2) f fd ["sums", "limit", "stage"] (spCh K chP) := by
  refine F.ok sc_stage_choices (fun vs H Q E h => ?_) (fun cdv A outer s H vs Q E hr h => ?_)
  · obtain ⟨l, t, sums, limit, depth, m, kk, rfl, _⟩ := h
    rfl
  · obtain ⟨l, t, sums, limit, depth, m, kk, rfl, hs, q⟩ := h
    refine ⟨_, (pss_cons (ps_asg (pv 2) (pg_tup rfl (pgs_cons (pg_name (i := 3) sc_stage_choices.nd rfl (Or.inl rfl)) (pgs_cons (pg_name (i := 4) sc_stage_choices.nd rfl (Or.inl rfl)) (pgs_cons (pg_name (i := 5) sc_stage_choices.nd rfl (Or.inl rfl)) pgs_nil)))))
      (pss_cons (ps_set (i := 6) sc_stage_choices.nd rfl (Or.inl rfl) (pe_op op_sub (pe_op op_sub (pe_callB call_len_seq (by rfl) B.len PySem.boot_len (pa_cons (pv 0) pa_nil)) pe_int) (pv 4)))
      (pss_cons (ps_set (i := 7) sc_stage_choices.nd rfl (Or.inl rfl) (pe_lst pa_nil))
      (pss_cons (ps_for PassesOwn.never rfl (pi_list (pe_callC C_word_counts (hr.mono (by omega)) (by rfl) (pa_cons (pv 1) (pa_cons (pv 3) (pa_cons (pv 5) (pa_cons (pv 6) pa_nil)))))) (pg_name (i := 8) sc_stage_choices.nd rfl (Or.inl rfl)) (pss_one (ps_if (pt_cmpR op_eq (pv 8) (pv 6) (nomark _)) (pss_one (ps_expr (pe_bm PySem.F.plainAttrs_list PySem.F.slot_list_append PySem.F.type_list_append mt_append (pv 7) (pa_cons (pe_tup (pa_cons (pv 8) (pa_cons pe_int (pa_cons pe_non pa_nil)))) pa_nil)))) (pss_one (ps_if (pt_cmpR op_ne (pv 8) (pv 5) (nomark _)) (pss_one (ps_expr (pe_bm PySem.F.plainAttrs_list PySem.F.slot_list_append PySem.F.type_list_append mt_append (pv 7) (pa_cons (pe_tup (pa_cons (pv 8) (pa_cons (pe_ix ix_list (pv 0) (pe_op op_add (pv 4) (pv 8)) (fun _ _ => rfl)) (pa_cons (pe_tup (pa_cons (pe_op op_add (pv 3) pe_int) (pa_cons (pe_op op_add (pv 4) (pv 8)) (pa_cons (pe_callB (call_min2 rfl) (by rfl) B.min (by decide +kernel) (pa_cons (pe_op op_mul pe_int (pe_op op_sub (pv 5) (pv 8))) (pa_cons (pe_op op_sub (pv 6) (pv 8)) pa_nil))) pa_nil)))) pa_nil)))) pa_nil)))) pss_nil)))))
      (pss_one (ps_ret (pv 7))))))), ?_⟩
    obtain ⟨hsq, hst, ⟨o1, o2, o3, o4⟩, hln, hkk⟩ := hs
    refine q_unp (ev_var rfl) hst rfl fun H1 e1 => ⟨_, _, rfl, _, _, rfl, _, _, rfl, rfl, ?_⟩
    have hlen : ((sums.map V.int).length : Int) = (sums.length : Int) := by rw [List.length_map]
    generalize hn : (sums.length : Int) - 1 - m = left at *
    refine q_asg (v := .int left) (ev_is (ev_sub (ev_sub (ev_len (ev_var rfl) (ex_l e1 hsq)) ev_c) (ev_var rfl)) (by rw [hlen, hn])) fun H2 e2 => ?_
    refine q_asgL (el_lst ea_nil (by decide)) fun p H3 hp e3 h3 => ?_
    have e13 := (e1.trans e2).trans e3
    have hp0 : H p = none := fresh_back (e1.trans e2) hp
    have hxl : ((wc limit depth kk left).map V.int).length ≤ 1001 := by rw [List.length_map]; exact wc_len (by omega)
    refine q_forNL (xs := (wc limit depth kk left).map V.int) (el_call (ea_cons (ev_var rfl) (ea_cons (ev_var rfl) (ea2 (ev_var rfl) (ev_var rfl)))) fun H1 e1 Q q E => ⟨limit, depth, kk, left, rfl, by omega, by omega, by omega, fun p H2 hp e2 h2 => q p H2 hp e2 h2⟩)
      (fun w i σ H' => ∃ (vs : List V) (c : Option V), σ = [some (.ref l), some (.int limit), some (.ref t), some (.int depth), some (.int m), some (.int kk), some (.int left), some (.ref p), c] ∧ Ex H H' ∧ w ≠ p ∧ H' w = some (.lst ((wc limit depth kk left).map V.int)) ∧ H' p = some (.lst vs) ∧ DpAll K H' vs (chsD (((wc limit depth kk left).take i).filterMap (chOf sums depth m kk))))
      (fun w H4 hw e4 h4 => ⟨[], none, rfl, e13.trans e4, (fun z => by rw [z, h3] at hw; cases hw), h4, e4 p _ h3, .nil⟩)
      (fun w i σ H' _ hP => by
        obtain ⟨vs, c, _, _, _, hw, _⟩ := hP
        exact sq_of hw) ?_ ?_
    · rintro w i x σ H' hi ⟨vs, c, rfl, eh, hwp, hw, hl, hd⟩
      obtain ⟨a, hia, rfl⟩ : ∃ a, (wc limit depth kk left)[i]? = some a ∧ V.int a = x := by
        rw [List.getElem?_map] at hi
        cases hz : (wc limit depth kk left)[i]? with
        | none => rw [hz] at hi; cases hi
        | some a => rw [hz] at hi; exact ⟨a, rfl, Option.some.inj hi⟩
      have ham := wc_mem (by omega) (List.mem_of_getElem? hia)
      have hil : i < 1001 := by
        have := (List.getElem?_eq_some_iff.mp hia).1
        have := wc_len (limit := limit) (depth := depth) (free := kk) (left := left) (by omega)
        omega
      have hvl : vs.length < 100000 := by
        rw [DpAll.len hd]
        have := fm_len (chOf sums depth m kk) ((wc limit depth kk left).take i)
        rw [List.length_take] at this
        unfold chsD
        rw [List.length_map]
        omega
      have hsq' := ex_l eh hsq
      have hone : chOf sums depth m kk a = if a = left then some (a, 0, none) else if a ≠ kk then some (a, sums.getD (m + a).toNat 0, some (depth + 1, m + a, if left - a < 2 * (kk - a) then left - a else 2 * (kk - a))) else none := by
        unfold chOf
        rw [hn]
      rw [fm_take _ _ hia]
      refine s_if (et_test (ev_eq (ev_var rfl) (ev_var rfl))) (fun hb H6 e6 => ?_) (fun hb H6 e6 => ?_)
      · rw [hone, if_pos (of_decide_eq_true hb)]
        refine s_appD (e6 p _ hl) (ev_var rfl) (ed_tup (eda_cons (ed_int (ev_var rfl)) (eda_cons (ed_int ev_c) (eda_cons (ed_non ev_c) eda_nil))) (by show 3 ≤ 100000; decide)) hvl fun v H7 e7 hv => ?_
        have e47 := e6.trans e7
        refine ⟨vs ++ [v], _, rfl, Ex.mut (eh.trans e47) hp0, hwp, by rw [upd_ne hwp]; exact e47 w _ hw, upd_same, ?_⟩
        unfold chsD
        rw [List.map_append]
        exact dp_app (e47 p _ hl) (DpAll.ext e47 _ _ hd) hv (chsD_noList _) rfl
      · rw [hone, if_neg (of_decide_eq_false hb)]
        refine s_if (et_test (ev_ne (ev_var rfl) (ev_var rfl))) (fun hb2 H7 e7 => ?_) (fun hb2 H7 e7 => ?_)
        · have hne : a ≠ kk := by
            intro z
            rw [decide_eq_true z] at hb2
            cases hb2
          rw [if_pos hne]
          have e47 := e6.trans e7
          have hix : (m + a).toNat < sums.length := by omega
          refine s_appD (e47 p _ hl) (ev_var rfl) (ed_tup (eda_cons (ed_int (ev_var rfl)) (eda_cons (ed_int (ev_op (ev_var rfl) (ev_add (ev_var rfl) (ev_var rfl)) (rv_ixL (ex_l e47 hsq') (atI_at (i := (m + a).toNat) (by omega) hix)))) (eda_cons
            (ed_tup (eda_cons (ed_int (ev_add (ev_var rfl) ev_c)) (eda_cons (ed_int (ev_add (ev_var rfl) (ev_var rfl))) (eda_cons (ed_int (ev_min (ev_op ev_c (ev_sub (ev_var rfl) (ev_var rfl)) (rv_mul (by decide))) (ev_sub (ev_var rfl) (ev_var rfl)))) eda_nil))) (by show 3 ≤ 100000; decide)) eda_nil))) (by show 3 ≤ 100000; decide)) hvl fun v H8 e8 hv => ?_
          have e48 := e47.trans e8
          refine ⟨vs ++ [v], _, rfl, Ex.mut (eh.trans e48) hp0, hwp, by rw [upd_ne hwp]; exact e48 w _ hw, upd_same, ?_⟩
          unfold chsD
          rw [List.map_append]
          exact dp_app (e48 p _ hl) (DpAll.ext e48 _ _ hd) hv (chsD_noList _) rfl
        · have hne : ¬ (a ≠ kk) := by
            intro z
            rw [decide_eq_false z] at hb2
            cases hb2
          rw [if_neg hne]
          have e47 := e6.trans e7
          refine ⟨vs, _, rfl, eh.trans e47, hwp, e47 w _ hw, e47 p _ hl, ?_⟩
          rw [Option.toList_none, List.append_nil]
          exact DpAll.ext e47 _ _ hd
    · rintro w σ H' ⟨vs, c, rfl, eh, hwp, hw, hl, hd⟩
      rw [List.length_map, List.take_length] at hd
      have e9 : chP sums limit depth m kk = (wc limit depth kk left).filterMap (chOf sums depth m kk) := by
        unfold chP
        rw [hn]
      rw [e9] at q
      exact s_ret (ev_var rfl) fun H2 e2 => q p vs H2 hp0 (eh.trans e2) (e2 p _ hl) (DpAll.ext e2 _ _ hd)
end
end K16L
set_option Elab.async false
set_option linter.all false
set_option maxRecDepth 100000
set_option maxHeartbeats 4000000
namespace K16L
open PySem PySem.Spec PyProof.Rows L2 GX KC Evl M03
section
variable {P : Program} {w : World} {K : PySem.W.Frag} {mg : Str → Option Value} {base : Heap}
/-! rests -/
theorem el_sortedI {σ : L2.St} {H : Hp} {ta : TE} {l : Addr} {ws : List Int} (h : Ev ta σ H (.ref l)) (hs : SqL K H l (ws.map V.int)) : EvL (tCB (rSortedI K) (tCons ta tNil)) σ H ((ranked ws).reverse.map V.int) := fun H1 e Q q =>
  h H1 e _ fun H2 e2 => ⟨l, ws, rfl, ex_l (e.trans e2) hs, fun ns' p hp hw hn => by
    rw [asc_is hp hw]
    exact q p _ (fresh_back e2 hn) (e2.trans (Ex.new hn)) upd_same⟩
theorem atI_lastD {L : List Int} (h : L ≠ []) : atI (L.map V.int) (-1) = some (.int (L.getLastD 0)) := by
  obtain ⟨M, z, e⟩ : ∃ M z, L = M ++ [z] := ⟨L.dropLast, L.getLast h, (List.dropLast_concat_getLast h).symm⟩
  subst e
  rw [List.map_append]
  show atI (M.map V.int ++ [V.int z]) (-1) = _
  rw [atI_last, List.getLastD_concat]
theorem ok_rests {f : Addr} {fd : FuncData} {k : Nat} (F : Fun K "rests" "rests" s_rests f fd) (B : Bs mg) : FnOk P w K mg base CX0 (k + 1) f fd ["weights"] (spSums K) := by
  refine F.ok sc_rests (fun vs H Q E h => ?_) (fun cdv A outer s H vs Q E hr h => ?_)
  · obtain ⟨l, ws, rfl, _⟩ := h
    rfl
  · obtain ⟨l, ws, rfl, hs, hn, q⟩ := h
    refine ⟨_, (pss_cons (ps_set (i := 1) sc_rests.nd rfl (Or.inl rfl) (pe_lst (pa_cons pe_int pa_nil)))
      (pss_cons (ps_for PassesOwn.never rfl (pi_list (pe_callB cr_sortedI (by rfl) B.sorted (by decide +kernel) (pa_cons (pv 0) pa_nil))) (pg_name (i := 2) sc_rests.nd rfl (Or.inl rfl)) (pss_one (ps_expr (pe_bm PySem.F.plainAttrs_list PySem.F.slot_list_append PySem.F.type_list_append mt_append (pv 1) (pa_cons (pe_op op_add (pe_ix ix_list (pv 1) (pe_un un_neg pe_int) (fun _ _ => rfl)) (pv 2)) pa_nil)))))
      (pss_one (ps_ret (pe_revL (pv 1)))))), ?_⟩
    refine q_asgL (el_lst (ea1 ev_c) (by decide)) fun p H1 hp e1 h1 => ?_
    have hrl : ((ranked ws).reverse.map V.int).length = ws.length := by rw [List.length_map, List.length_reverse, ranked_len]
    refine q_forNL (el_sortedI (ev_var rfl) (ex_l e1 hs))
      (fun a i σ H' => ∃ c, σ = [some (.ref l), some (.ref p), c] ∧ Ex H H' ∧ a ≠ p ∧ H' a = some (.lst ((ranked ws).reverse.map V.int)) ∧ H' p = some (.lst (((restL ((ranked ws).drop (ws.length - i))).reverse).map V.int)))
      (fun a H2 ha e2 h2 => ⟨none, rfl, e1.trans e2, (fun z => by rw [z, h1] at ha; cases ha), h2, ?_⟩)
      (fun a i σ H' _ hP => by
        obtain ⟨c, _, _, _, hw, _⟩ := hP
        exact sq_of hw) ?_ ?_
    · rw [e2 p _ h1, Nat.sub_zero, List.drop_of_length_le (by rw [ranked_len]; exact Nat.le_refl _)]
      rfl
    · rintro a i x σ H' hi ⟨c, rfl, eh, hap, ha, hl⟩
      have hiw : i < ws.length := by
        have := (List.getElem?_eq_some_iff.mp hi).1
        omega
      have hir : i < (ranked ws).reverse.length := by rw [List.length_reverse, ranked_len]; exact hiw
      have hx : x = .int ((ranked ws).reverse.getD i 0) := by
        have := int_at hir
        rw [this] at hi
        exact (Option.some.inj hi).symm
      subst hx
      have hst := asc_step (ranked ws).reverse i hir
      rw [List.reverse_reverse, List.length_reverse, ranked_len] at hst
      have hne : (restL ((ranked ws).drop (ws.length - i))).reverse ≠ [] := by
        intro z
        have h2 := congrArg List.length z
        rw [List.length_reverse, restL_len] at h2
        simp at h2
      have hlen : (((restL ((ranked ws).drop (ws.length - i))).reverse).map V.int).length < 100000 := by
        rw [List.length_map, List.length_reverse, restL_len, List.length_drop, ranked_len]; omega
      refine s_app hl (ev_var rfl) (ev_add (ev_op (ev_var rfl) (ev_un ev_c ru_neg) (rv_ixL (sq_of hl) (atI_lastD hne))) (ev_var rfl)) hlen fun H2 e2 => ?_
      refine ⟨_, rfl, Ex.mut (eh.trans e2) (fresh_back (Ex.refl H) hp), hap, by rw [upd_ne hap]; exact e2 a _ ha, ?_⟩
      rw [upd_same, hst, List.map_append]
      rfl
    · rintro a σ H' ⟨c, rfl, eh, hap, ha, hl⟩
      rw [hrl, Nat.sub_self, List.drop_zero] at hl
      refine s_retL (el_rev (ev_var rfl) (sq_of hl)) fun p2 H2 hp2 e2 h2 => q p2 H2 (fresh_back eh hp2) (eh.trans e2) ?_
      rw [h2, ← List.map_reverse, List.reverse_reverse]
      rfl
/-! choices -/
structure ChIn (K : PySem.W.Frag) (ws : List Int) (l t : Addr) (limit depth m k : Int) (H : Hp) : Prop where
  sq : SqL K H l (ws.map V.int)
  st : SqT K H t [.int depth, .int m, .int k]
  ok : StOk (sumsL ws) limit depth m k
  len : ws.length ≤ 64
  kk : k ≤ 1000
end
end K16L
set_option Elab.async false
set_option linter.all false
set_option maxRecDepth 100000
set_option maxHeartbeats 4000000
namespace K16L
open PySem PySem.Spec PyProof.Rows L2 GX KC Evl M03
section
variable {P : Program} {w : World} {K : PySem.W.Frag} {mg : Str → Option Value} {base : Heap}
/-! the sum over pairs -/
def sumF (n : Nat) (f : Nat → Int) : Int := ((List.range n).map f).sum
theorem sumF_succ (n : Nat) (f : Nat → Int) : sumF (n + 1) f = sumF n f + f n := by
  unfold sumF
  rw [List.range_succ, List.map_append, List.sum_append]
  simp
theorem sumF_bd (n : Nat) (f : Nat → Int) (B : Int) (hB : 0 ≤ B) (h : ∀ i, i < n → -B ≤ f i ∧ f i ≤ B) : -(n * B) ≤ sumF n f ∧ sumF n f ≤ n * B := by
  induction n with
  | zero => simp [sumF]
  | succ n ih =>
    obtain ⟨h1, h2⟩ := ih fun i hi => h i (by omega)
    obtain ⟨h3, h4⟩ := h n (by omega)
    rw [sumF_succ]
    have e : ((n + 1 : Nat) : Int) * B = n * B + B := by
      rw [Int.natCast_add, Int.add_mul]
      simp
    omega
def fV (n : Nat) (f : Nat → Int) : List V := (List.range n).map fun i => V.int (f i)
theorem fV_succ (n : Nat) (f : Nat → Int) : fV (n + 1) f = fV n f ++ [V.int (f n)] := by
  unfold fV
  rw [List.range_succ, List.map_append] <;> rfl
theorem fV_sum (n : Nat) (f : Nat → Int) : vsum (fV n f) = sumF n f := by
  unfold fV sumF
  have e : (List.range n).map (fun i => V.int (f i)) = ((List.range n).map f).map V.int := by rw [List.map_map]; rfl
  rw [e, vsum_ints]
theorem fV_len (n : Nat) (f : Nat → Int) : (fV n f).length = n := by
  unfold fV
  rw [List.length_map, List.length_range]
theorem ev_sumZ {σ : L2.St} {H : Hp} {te ta tb : TE} {Pt a b : Addr} {xs ys : List Int} {n : Nat} (f : Nat → Int) (ha : Ev ta σ H (.ref a)) (hb : Ev tb σ H (.ref b)) (hx : SqL K H a (xs.map V.int)) (hy : SqL K H b (ys.map V.int)) (h1 : xs.length = n) (h2 : ys.length = n) (hn : n ≤ 1000)
    (tab : H Pt = some (TabX Pt)) (hf : ∀ i, i < n → -(2 ^ 40) ≤ f i ∧ f i ≤ 2 ^ 40) (he : ∀ i, i < n → ∀ H1, Ex H H1 → Ev te [some (.int (xs.getD i 0)), some (.int (ys.getD i 0))] H1 (.int (f i))) :
    Ev (tSumG (tGx Pt (iZip K (tCons ta (tCons tb tNil))) (gTup K 2 (gCons (gName 0) (gCons (gName 1) gNil))) tYes te [none, none] [0, 1])) σ H (.int (sumF n f)) := fun H1 e Q q =>
  ha H1 e _ fun H2 e2 => hb H2 (e.trans e2) _ fun H3 e3 => by
    have e13 := e2.trans e3
    have e03 := e.trans e13
    have hxl : (xs.map V.int).length = n := by rw [List.length_map]; exact h1
    have hyl : (ys.map V.int).length = n := by rw [List.length_map]; exact h2
    refine ⟨a, b, _, _, rfl, ex_l e03 hx, ex_l e03 hy, e03 Pt _ tab, fun i m zs H' => m + i = n ∧ Ex H3 H' ∧ zs = fV i f, ⟨n, by omega, Ex.refl _, rfl⟩, ?_⟩
    rintro i m zs H' ⟨hm, e4, rfl⟩
    have e04 := e03.trans e4
    by_cases hi : i < n
    · right
      refine ⟨⟨_, _, _, _, ex_l e04 hx, ex_l e04 hy, int_at (by omega), int_at (by omega)⟩, fun zs H5 => (m - 1) + (i + 1) = n ∧ Ex H3 H5 ∧ zs = fV (i + 1) f, fun zs H5 q => ⟨m - 1, by omega, q⟩, ?_⟩
      rintro v H5 ⟨T, x, y, rfl, hT, rfl, hx1, hy1⟩
      have ex1 := (Option.some.inj ((int_at (by omega : i < xs.length)).symm.trans (hx1 _ (ex_l e04 hx)))).symm
      have ey1 := (Option.some.inj ((int_at (by omega : i < ys.length)).symm.trans (hy1 _ (ex_l e04 hy)))).symm
      subst ex1
      subst ey1
      have e45 : Ex H' (upd H' T (.tup [.int (xs.getD i 0), .int (ys.getD i 0)])) := Ex.new hT
      refine ⟨T, _, rfl, .inl (.inl upd_same), rfl, _, _, rfl, _, _, rfl, rfl, rfl, ?_⟩
      show te [some (.int (xs.getD i 0)), some (.int (ys.getD i 0))] _ _
      refine he i hi _ (e04.trans e45) _ (Ex.refl _) _ fun H6 e6 => ?_
      have hb1 := sumF_bd i f (2 ^ 40) (by decide) fun j hj => hf j (by omega)
      have hb2 := hf i hi
      have hiB : (i : Int) * 2 ^ 40 ≤ 1000 * 2 ^ 40 := by omega
      refine ⟨sz_lt (by rw [fV_len]; omega), ⟨f i, rfl, ⟨by omega, by omega⟩, ?_⟩, by omega, (e4.trans e45).trans e6, (fV_succ i f).symm⟩
      rw [fV_sum]
      exact ⟨by omega, by omega⟩
    · left
      have hin : i = n := by omega
      subst hin
      refine ⟨⟨_, _, ex_l e04 hx, ex_l e04 hy, .inl (by rw [hxl]; exact Nat.le_refl _)⟩, ?_⟩
      show Q (.int (vsum (fV i f))) H'
      rw [fV_sum]
      exact q H' (e13.trans e4)
def costF (ws ls : List Int) (i : Nat) : Int := ws.getD i 0 * ls.getD i 0
def spCost (K : PySem.W.Frag) (Pt : Addr) : Sp := fun vs H Q _ => ∃ (l t : Addr) (ws ls : List Int), vs = [.ref l, .ref t] ∧ SqL K H l (ws.map V.int) ∧ SqL K H t (ls.map V.int) ∧ ws.length = ls.length ∧ ws.length ≤ 1000 ∧ H Pt = some (TabX Pt) ∧
  (∀ i, i < ws.length → -(2 ^ 62) < ws.getD i 0 ∧ ws.getD i 0 < 2 ^ 62 ∧ -(2 ^ 40) ≤ costF ws ls i ∧ costF ws ls i ≤ 2 ^ 40) ∧ ∀ H2, Ex H H2 → Q (.int (sumF ws.length (costF ws ls))) H2
end
end K16L
set_option Elab.async false
set_option linter.all false
set_option maxRecDepth 100000
set_option maxHeartbeats 4000000
namespace K16L
open PySem PySem.Spec PyProof.Rows L2 GX KC Evl M03
section
variable {P : Program} {w : World} {K : PySem.W.Frag} {mg : Str → Option Value} {base : Heap}
theorem el_lcLG {σ : L2.St} {H : Hp} {a : Addr} {xs : List V} {tl te : TE} {t : TT} {g : TG} {vs : List Nat} (f : Nat → Bool) (v : Nat → V) (h : Ev tl σ H (.ref a)) (hx : SqL K H a xs) (hz : xs.length ≤ 40000)
    (hg : ∀ (i : Nat) (x : V) H', Ex H H' → xs[i]? = some x → ∃ σ2, wipe σ2 vs = wipe σ vs ∧ (∀ H2, Ex H H2 → EvT t σ2 H2 (f i)) ∧ (∀ H2, Ex H H2 → f i = true → Ev te σ2 H2 (v i)) ∧ ∀ R : L2.St → Hp → Prop, R σ2 H' → g x (wipe σ vs) H' R) :
    EvL (tLc (iList K tl) g t te vs) σ H (given xs.length f v) := fun H0 e Q q => h H0 e _ fun H1 e1 => ⟨a, rfl, ⟨xs, ex_l (e.trans e1) hx⟩, fun Dl hD =>
  lc_list (xs := xs) (Cw H1 f v Dl) ⟨hD, Ex.new hD, upd_same⟩ (fun i H' _ p => ex_l ((e.trans e1).trans p.2.1) hx) (fun i x H' hi p => by
    obtain ⟨σ2, g1, g2, g3, g4⟩ := hg i x H' ((e.trans e1).trans p.2.1) hi
    exact g4 _ ⟨g1, cw_turn p (by have := (List.getElem?_eq_some_iff.mp hi).1; omega) (g2 H1 (e.trans e1)) (fun hf => g3 H1 (e.trans e1) hf)⟩)
    (fun H' p => q Dl H' (fresh_back e1 p.1) (e1.trans p.2.1) p.2.2)⟩
theorem t_yes {σ : L2.St} {H : Hp} {A B : Hp → Prop} (h : A H) : tYes σ H (fun b H3 => if b = true then A H3 else B H3) := by
  show (if true = true then A H else B H)
  rw [if_pos rfl]
  exact h
/-- the pairs (minus weight, symbol) -/
def PrAt (ws : List Int) (H : Hp) (ys : List V) (n : Nat) : Prop := ys.length = n ∧ ∀ j, j < n → ∃ t, ys[j]? = some (.ref t) ∧ H t = some (.tup [.int (-(ws.getD j 0)), .int (j : Int)])
theorem PrAt.ext {ws : List Int} {H H' : Hp} {ys : List V} {n : Nat} (e : Ex H H') (h : PrAt ws H ys n) : PrAt ws H' ys n := ⟨h.1, fun j hj => by
  obtain ⟨t, h1, h2⟩ := h.2 j hj
  exact ⟨t, h1, e t _ h2⟩⟩
theorem PrAt.add {ws : List Int} {H : Hp} {ys : List V} {n : Nat} {t : Addr} (h : PrAt ws H ys n) (ht : H t = some (.tup [.int (-(ws.getD n 0)), .int (n : Int)])) : PrAt ws H (ys ++ [.ref t]) (n + 1) := by
  refine ⟨by rw [List.length_append, h.1]; rfl, fun j hj => ?_⟩
  by_cases e : j < n
  · obtain ⟨u, h1, h2⟩ := h.2 j e
    exact ⟨u, by rw [List.getElem?_append_left (by rw [h.1]; exact e)]; exact h1, h2⟩
  · have : j = n := by omega
    subst this
    exact ⟨t, by rw [List.getElem?_append_right (by rw [h.1]; exact Nat.le_refl _), h.1, Nat.sub_self]; rfl, ht⟩
def keyOf (H : Hp) : V → Int × Int
  | .ref t => match H t with
    | some (.tup [.int a, .int b]) => (a, b)
    | _ => (0, 0)
  | _ => (0, 0)
theorem keyOf_tup {H : Hp} {t : Addr} {a b : Int} (h : H t = some (.tup [.int a, .int b])) : keyOf H (.ref t) = (a, b) := by
  show (match H t with | some (.tup [.int a, .int b]) => (a, b) | _ => ((0 : Int), (0 : Int))) = _
  rw [h]
def symOf (H : Hp) (z : V) : Nat := (keyOf H z).2.toNat
theorem sorted_syms {ws : List Int} {H : Hp} {ys zs : List V} (h : PrAt ws H ys ws.length) (hp : zs.Perm ys) (hs : SrtO.Srtd (ltP (keyOf H)) zs) : zs.map (symOf H) = rankL ws := by
  have hy : ∀ z ∈ ys, ∃ j t, j < ws.length ∧ z = .ref t ∧ H t = some (.tup [.int (-(ws.getD j 0)), .int (j : Int)]) := fun z hz => by
    obtain ⟨j, hj⟩ := List.mem_iff_getElem?.mp hz
    have hjl : j < ws.length := by rw [← h.1]; exact (List.getElem?_eq_some_iff.mp hj).1
    obtain ⟨t, h1, h2⟩ := h.2 j hjl
    rw [hj] at h1
    exact ⟨j, t, hjl, Option.some.inj h1, h2⟩
  have hsym : ∀ z ∈ ys, keyOf H z = (-(wAt ws (symOf H z)), (symOf H z : Int)) ∧ symOf H z < ws.length := fun z hz => by
    obtain ⟨j, t, hj, rfl, ht⟩ := hy z hz
    have hk := keyOf_tup ht
    have e : symOf H (.ref t) = j := by unfold symOf; rw [hk]; simp
    rw [e, hk]
    exact ⟨rfl, hj⟩
  have hys : ys.map (symOf H) = List.range ws.length := by
    refine List.ext_getElem? fun j => ?_
    rw [List.getElem?_map]
    by_cases hj : j < ws.length
    · obtain ⟨t, h1, h2⟩ := h.2 j hj
      rw [h1, List.getElem?_range hj]
      show some (symOf H (.ref t)) = _
      unfold symOf
      rw [keyOf_tup h2]
      simp
    · rw [List.getElem?_eq_none (by rw [h.1]; omega), List.getElem?_eq_none (by rw [List.length_range]; omega)]
      rfl
  have hperm : (zs.map (symOf H)).Perm (List.range ws.length) := by rw [← hys]; exact hp.map _
  refine IsRank.uniq ⟨?_, fun k => by rw [hperm.mem_iff, List.mem_range]⟩ (rank_is ws)
  have hnd : (zs.map (symOf H)).Nodup := hperm.nodup_iff.mpr List.nodup_range
  have hnd2 : zs.Pairwise fun a b => symOf H a ≠ symOf H b := List.pairwise_map.mp hnd
  refine List.pairwise_map.mpr ?_
  have h3 := hs.and hnd2
  refine List.Pairwise.imp_of_mem (fun {a b} ha hb hab => ?_) h3
  obtain ⟨ka, _⟩ := hsym a (hp.mem_iff.mp ha)
  obtain ⟨kb, _⟩ := hsym b (hp.mem_iff.mp hb)
  obtain ⟨h4, h5⟩ := hab
  have h6 := SrtO.lexB_no.mp h4
  rw [ka, kb] at h6
  unfold Rk
  simp only at h6
  omega
def spRanksP (K : PySem.W.Frag) (Pt : Addr) : Sp := fun vs H Q _ => ∃ (l : Addr) (ws : List Int), vs = [.ref l] ∧ SqL K H l (ws.map V.int) ∧ ws.length ≤ 64 ∧ H Pt = some (TabX Pt) ∧ RetL (nats (rankL ws)) H Q
theorem ok_ranks {f c Pt : Addr} {fd : FuncData} {k : Nat} (F : FunT K "ranks" "ranks" s_ranks f fd c) (TB : GxR.TabB base mg c Pt) (B : Bs mg) : FnOk P w K mg base CX0 (k + 7) f fd ["weights"] (spRanksP K Pt) := by
  refine F.ok sc_ranks (fun vs H Q E h => ?_) (fun A outer s H vs Q E hr h => ?_)
  · obtain ⟨l, ws, rfl, _⟩ := h
    rfl
  · obtain ⟨l, ws, rfl, hs, hn, htab, q⟩ := h
    refine ⟨_, (pss_cons (ps_set (i := 1) sc_ranks.nd rfl (Or.inl rfl) (pe_sortedG (k := 0) (pgx_gen (g := (gTup K 2 (gCons (gName 0) (gCons (gName 1) gNil)))) (N' := ["symbol", "weight"]) (cm := [none, none]) (own := [0, 1]) (k0 := 0) (k := 0) (hr.mono (by omega)) TB rfl (capOk_by (N := ["weights", "order", "_", "symbol"]) (sc := defScope s_ranks) (by decide +kernel)) (pi_enum (by rfl) B.enumerate (pa_cons (pv 0) pa_nil)) (fun _ _ _ _ _ _ _ _ hr => (pg_tup rfl (pgs_cons (pg_name (i := 0) (show List.Nodup (["symbol", "weight"] : List Str) by decide +kernel) rfl (Or.inl rfl)) (pgs_cons (pg_name (i := 1) (show List.Nodup (["symbol", "weight"] : List Str) by decide +kernel) rfl (Or.inl rfl)) pgs_nil)))) (fun _ _ _ _ _ _ _ _ hr => pts_nil) (fun _ _ _ _ _ _ _ _ hr => (pe_tup (pa_cons (pe_un un_neg (pv 1)) (pa_cons (pv 0) pa_nil))))) (fun _ => mt_sortPO) (hr.mono (by omega)) (by rfl) B.sorted))
      (pss_one (ps_ret (pe_lc (g := (gTup K 2 (gCons (gName 2) (gCons (gName 3) gNil)))) rfl sc_ranks.nd (pi_list (pv 1)) (blkOk_by (own := [("_", 2), ("symbol", 3)]) (N := ["weights", "order", "_", "symbol"]) (sc := defScope s_ranks) (by decide +kernel)) (fun _ _ _ _ _ => (pg_tup rfl (pgs_cons (pg_name (i := 2) sc_ranks.nd rfl (Or.inl rfl)) (pgs_cons (pg_name (i := 3) sc_ranks.nd rfl (Or.inl rfl)) pgs_nil)))) (fun _ _ _ _ _ => pts_nil) (fun _ _ _ _ _ => (pv 3)))))), ?_⟩
    have hxl : (ws.map V.int).length = ws.length := List.length_map _
    refine ⟨_, rfl, l, _, rfl, hs, htab, fun i m zs H' => m + i = ws.length ∧ Ex H H' ∧ PrAt ws H' zs i, ⟨ws.length, by omega, Ex.refl _, rfl, fun j hj => by omega⟩, ?_⟩
    rintro i m zs H' ⟨hm, e4, hpr⟩
    by_cases hi : i < ws.length
    · right
      refine ⟨⟨_, _, ex_l e4 hs, int_at hi⟩, fun zs H5 => (m - 1) + (i + 1) = ws.length ∧ Ex H H5 ∧ PrAt ws H5 zs (i + 1), fun zs H5 q => ⟨m - 1, by omega, q⟩, ?_⟩
      rintro v H5 ⟨T, x, rfl, hT, rfl, hx1⟩
      have ex1 := (Option.some.inj ((int_at hi).symm.trans (hx1 _ (ex_l e4 hs)))).symm
      subst ex1
      have e45 : Ex H' (upd H' T (.tup [.int (i : Int), .int (ws.getD i 0)])) := Ex.new hT
      refine ⟨T, _, rfl, .inl (.inl upd_same), rfl, _, _, rfl, _, _, rfl, rfl, rfl, ?_⟩
      refine t_yes ?_
      show tTup (tCons (tUn (rU fun i => V.int (-i)) (tVar 1)) (tCons (tVar 0) tNil)) [some (.int (i : Int)), some (.int (ws.getD i 0))] _ _
      refine (eu_tup (σ := [some (.int (i : Int)), some (.int (ws.getD i 0))]) (ea2 (ev_un (x := .int (ws.getD i 0)) (ev_var (i := 1) rfl) ru_neg) (ev_var (i := 0) (v := .int (i : Int)) rfl)) (by show 2 ≤ 100000; decide)) _ (Ex.refl _) _ fun p H6 hp e6 h6 => ?_
      have e46 := e45.trans e6
      exact ⟨sz_lt (by rw [hpr.1]; omega), trivial, by omega, e4.trans e46, (hpr.ext e46).add h6⟩
    · left
      have hin : i = ws.length := by omega
      subst hin
      refine ⟨⟨_, ex_l e4 hs, by rw [hxl]; exact Nat.le_refl _⟩, fun o ho => ?_⟩
      have ne : ∀ t u, H' t = some u → t ≠ o := fun t u h z => by rw [z, ho] at h; cases h
      have eo : Ex H' (upd H' o (.lst zs)) := Ex.new ho
      refine ⟨o, zs, keyOf H', rfl, rfl, upd_same, fun y hy => ?_, fun zs' hsr hst => ?_⟩
      · obtain ⟨j, hj⟩ := List.mem_iff_getElem?.mp hy
        have hjl : j < ws.length := by rw [← hpr.1]; exact (List.getElem?_eq_some_iff.mp hj).1
        obtain ⟨t, h1, h2⟩ := hpr.2 j hjl
        rw [hj] at h1
        have ey := Option.some.inj h1
        subst ey
        refine ⟨t, rfl, ?_⟩
        rw [keyOf_tup h2]
        exact eo t _ h2
      · have hsy := sorted_syms hpr hst.perm hsr
        have hzl : zs'.length = ws.length := by rw [hst.perm.length_eq, hpr.1]
        have hov : upd (upd H' o (.lst zs)) o (.lst zs') = upd H' o (.lst zs') := by
          funext b
          by_cases e : b = o
          · rw [e, upd_same, upd_same]
          · rw [upd_ne e, upd_ne e, upd_ne e]
        rw [hov]
        have e0o : Ex H (upd H' o (.lst zs')) := e4.trans (Ex.new ho)
        have hz : ∀ i x, zs'[i]? = some x → ∃ t, x = .ref t ∧ i < ws.length ∧ H' t = some (.tup [.int (-(ws.getD ((rankL ws).getD i 0) 0)), .int ((rankL ws).getD i 0 : Nat)]) := fun i x hx => by
          have hil : i < ws.length := by rw [← hzl]; exact (List.getElem?_eq_some_iff.mp hx).1
          have hm := hst.perm.mem_iff.mp (List.mem_of_getElem? hx)
          obtain ⟨j, hj⟩ := List.mem_iff_getElem?.mp hm
          have hjl : j < ws.length := by rw [← hpr.1]; exact (List.getElem?_eq_some_iff.mp hj).1
          obtain ⟨t, h1, h2⟩ := hpr.2 j hjl
          rw [hj] at h1
          have ey := Option.some.inj h1
          subst ey
          have hsj : symOf H' (.ref t) = j := by unfold symOf; rw [keyOf_tup h2]; simp
          have hr1 : (rankL ws).getD i 0 = j := by
            rw [← hsy, List.getD_eq_getElem?_getD, List.getElem?_map, hx]
            exact hsj
          rw [hr1]
          exact ⟨t, rfl, hil, h2⟩
        show tRet (tLc (iList K (tVar 1)) (gTup K 2 (gCons (gName 2) (gCons (gName 3) gNil))) tYes (tVar 3) [2, 3]) { nx := fun _ H' => Q .non H', rt := Q } [some (.ref l), some (.ref o), none, none] _
        refine s_retL (xs := nats (rankL ws)) ?_ fun p H8 hp e8 h8 => q p H8 (fresh_back e0o hp) (e0o.trans e8) h8
        have hgv : nats (rankL ws) = given zs'.length (fun _ => true) fun i => V.int ((rankL ws).getD i 0 : Nat) := by
          unfold given
          rw [List.filter_eq_self.mpr fun _ _ => rfl, hzl]
          refine List.ext_getElem? fun j => ?_
          unfold nats
          rw [List.getElem?_map, List.getElem?_map]
          by_cases hj : j < ws.length
          · rw [List.getElem?_range hj, List.getElem?_eq_getElem (by rw [rank_len]; exact hj), Option.map_some, Option.map_some, List.getD_eq_getElem?_getD, List.getElem?_eq_getElem (by rw [rank_len]; exact hj)]
            rfl
          · rw [List.getElem?_eq_none (by rw [rank_len]; omega), List.getElem?_eq_none (by rw [List.length_range]; omega)]
            rfl
        rw [hgv]
        refine el_lcLG (K := K) _ _ (ev_var rfl) (sq_of upd_same) (by omega) fun i x H9 e9 hx => ?_
        obtain ⟨t, rfl, hil, ht⟩ := hz i x hx
        have ht9 : H9 t = some (.tup [.int (-(ws.getD ((rankL ws).getD i 0) 0)), .int ((rankL ws).getD i 0 : Nat)]) := e9 t _ (by rw [upd_ne (ne t _ ht)]; exact ht)
        exact ⟨[some (.ref l), some (.ref o), some (.int (-(ws.getD ((rankL ws).getD i 0) 0))), some (.int ((rankL ws).getD i 0 : Nat))], rfl, fun H2 _ => fun H3 _ R r => r H3 (Ex.refl H3), fun H2 _ _ => ev_var rfl, fun R r => ⟨t, _, rfl, .inl (.inl ht9), rfl, _, _, rfl, _, _, rfl, rfl, r⟩⟩
end
end K16L
set_option linter.all false
/-! Codes of least cost: choices down the depths cost no more than any lengths that keep the limit. Weights in descending order. -/
namespace M04
/-- the rests -/
def S (vs : List Int) (m : Nat) : Int := (vs.drop m).sum
/-- choices from a stage to an end, and what they cost -/
inductive Pth (vs : List Int) (L : Nat) : Nat → Nat → Nat → List Nat → Int → Prop
  | stop {d m k a : Nat} : d ≤ L → (d = 0 → a = 0) → m + a = vs.length → a ≤ k → Pth vs L d m k [a] 0
  | go {d m k a : Nat} {as : List Nat} {c : Int} : d < L → (d = 0 → a = 0) → m + a < vs.length → a < k → Pth vs L (d + 1) (m + a) (min (2 * (k - a)) (vs.length - m - a)) as c → Pth vs L d m k (a :: as) (S vs (m + a) + c)
def RR : List Int → List Nat → Nat → Int
  | v :: vs, l :: ls, d => v * ((l - d : Nat) : Int) + RR vs ls d
  | _, _, _ => 0
def TT : List Int → List Nat → Nat → Int
  | v :: vs, l :: ls, d => (if d < l then v else 0) + TT vs ls d
  | _, _, _ => 0
def clt : List Nat → Nat → Nat
  | [], _ => 0
  | l :: ls, d => (if l < d then 1 else 0) + clt ls d
def ceq : List Nat → Nat → Nat
  | [], _ => 0
  | l :: ls, d => (if l = d then 1 else 0) + ceq ls d
def slt (L : Nat) : List Nat → Nat → Nat
  | [], _ => 0
  | l :: ls, d => (if l < d then 2 ^ (L - l) else 0) + slt L ls d
def tot (L : Nat) : List Nat → Nat
  | [] => 0
  | l :: ls => 2 ^ (L - l) + tot L ls
theorem clt_succ (d : Nat) : ∀ ls : List Nat, clt ls (d + 1) = clt ls d + ceq ls d
  | [] => rfl
  | l :: ls => by
    have := clt_succ d ls
    unfold clt ceq
    by_cases h : l < d
    · rw [if_pos (by omega), if_pos h, if_neg (by omega)]
      omega
    · by_cases h2 : l = d
      · rw [if_pos (by omega), if_neg h, if_pos h2]
        omega
      · rw [if_neg (by omega), if_neg h, if_neg h2]
        omega
theorem slt_succ (L d : Nat) : ∀ ls : List Nat, slt L ls (d + 1) = slt L ls d + ceq ls d * 2 ^ (L - d)
  | [] => by simp [slt, ceq]
  | l :: ls => by
    have := slt_succ L d ls
    unfold slt ceq
    by_cases h : l < d
    · rw [if_pos (by omega), if_pos h, if_neg (by omega), this, Nat.zero_add]
      omega
    · by_cases h2 : l = d
      · subst h2
        rw [if_pos (by omega), if_neg h, if_pos rfl, this, Nat.add_mul]
        omega
      · rw [if_neg (by omega), if_neg h, if_neg h2, this]
        simp only [Nat.zero_add]
theorem clt_le (d : Nat) : ∀ ls : List Nat, clt ls d ≤ ls.length
  | [] => Nat.le_refl _
  | l :: ls => by
    have := clt_le d ls
    unfold clt
    rw [List.length_cons]
    split <;> omega
theorem slt_le (L d : Nat) : ∀ ls : List Nat, slt L ls d ≤ tot L ls
  | [] => Nat.le_refl _
  | l :: ls => by
    have := slt_le L d ls
    have hp : 0 < 2 ^ (L - l) := Nat.pow_pos (by decide)
    unfold slt tot
    split <;> omega
/-- while some length is not below d, something is left -/
theorem slt_lt (L d : Nat) : ∀ ls : List Nat, clt ls d < ls.length → slt L ls d < tot L ls
  | [], h => by simp [clt] at h
  | l :: ls, h => by
    have hp : 0 < 2 ^ (L - l) := Nat.pow_pos (by decide)
    unfold clt at h
    rw [List.length_cons] at h
    unfold slt tot
    by_cases z : l < d
    · rw [if_pos z] at h ⊢
      have := slt_lt L d ls (by omega)
      omega
    · rw [if_neg z]
      have := slt_le L d ls
      omega
theorem clt_all {d : Nat} : ∀ ls : List Nat, (∀ l ∈ ls, l < d) → clt ls d = ls.length
  | [], _ => rfl
  | l :: ls, h => by
    unfold clt
    rw [if_pos (h l (by simp)), clt_all ls fun x hx => h x (by simp [hx]), List.length_cons]
    omega
theorem clt_none {d : Nat} : ∀ ls : List Nat, (∀ l ∈ ls, d ≤ l) → clt ls d = 0
  | [], _ => rfl
  | l :: ls, h => by
    have := h l (by simp)
    unfold clt
    rw [if_neg (by omega), clt_none ls fun x hx => h x (by simp [hx])]
theorem slt_none {L d : Nat} : ∀ ls : List Nat, (∀ l ∈ ls, d ≤ l) → slt L ls d = 0
  | [], _ => rfl
  | l :: ls, h => by
    have := h l (by simp)
    unfold slt
    rw [if_neg (by omega), slt_none ls fun x hx => h x (by simp [hx])]
theorem RR_step (d : Nat) : ∀ (vs : List Int) (ls : List Nat), RR vs ls d = TT vs ls d + RR vs ls (d + 1)
  | [], _ => by simp [RR, TT]
  | v :: vs, [] => by simp [RR, TT]
  | v :: vs, l :: ls => by
    have := RR_step d vs ls
    unfold RR TT
    by_cases h : d < l
    · rw [if_pos h, show l - d = (l - (d + 1)) + 1 by omega]
      push_cast
      rw [Int.mul_add]
      omega
    · rw [if_neg h, show l - d = 0 by omega, show l - (d + 1) = 0 by omega]
      omega
theorem RR_nonneg (d : Nat) : ∀ (vs : List Int) (ls : List Nat), (∀ v ∈ vs, 0 ≤ v) → 0 ≤ RR vs ls d
  | [], _, _ => by simp [RR]
  | v :: vs, [], _ => by simp [RR]
  | v :: vs, l :: ls, h => by
    have h1 := RR_nonneg d vs ls fun x hx => h x (by simp [hx])
    have h2 := Int.mul_nonneg (h v (by simp)) (Int.natCast_nonneg (l - d))
    unfold RR
    omega
/-- those that are longer weigh no less than the lightest ones -/
theorem TT_ge (d : Nat) : ∀ (vs : List Int) (ls : List Nat), vs.length = ls.length → vs.Pairwise (fun a b => b ≤ a) → S vs (clt ls (d + 1)) ≤ TT vs ls d
  | [], ls, _, _ => by simp [S, TT]
  | v :: vs, [], h, _ => by simp at h
  | v :: vs, l :: ls, h, hs => by
    have hlen : vs.length = ls.length := by simpa using h
    have hs2 := List.pairwise_cons.mp hs
    have ih := TT_ge d vs ls hlen hs2.2
    unfold TT clt
    by_cases z : d < l
    · rw [if_pos z, if_neg (show ¬ l < d + 1 by omega), Nat.zero_add]
      have hc := clt_le (d + 1) ls
      generalize clt ls (d + 1) = c at *
      unfold S at *
      cases c with
      | zero =>
        simp only [List.drop_zero, List.sum_cons] at *
        omega
      | succ c =>
        rw [List.drop_succ_cons]
        have hcl : c < vs.length := by omega
        rw [List.drop_eq_getElem_cons hcl, List.sum_cons]
        have := hs2.1 vs[c] (List.getElem_mem hcl)
        omega
    · rw [if_neg z, if_pos (show l < d + 1 by omega), Nat.add_comm 1]
      unfold S at *
      rw [List.drop_succ_cons]
      omega
section
variable {vs : List Int} {ls : List Nat} {L : Nat}
/-- THE LOWER WAY: any lengths that keep the limit are met by choices that cost no more -/
theorem path_of (hlen : vs.length = ls.length) (h0 : ∀ v ∈ vs, 0 ≤ v) (hs : vs.Pairwise (fun a b => b ≤ a)) (h1 : ∀ l ∈ ls, 1 ≤ l ∧ l ≤ L) (hk : tot L ls ≤ 2 ^ L) : ∀ (t d k K : Nat), d + t = L → clt ls d < ls.length → K * 2 ^ t + slt L ls d = 2 ^ L → min K (ls.length - clt ls d) ≤ k →
    ∃ as c, Pth vs L d (clt ls d) k as c ∧ c ≤ RR vs ls d := by
  intro t
  induction t with
  | zero =>
    intro d k K hd hm hK hmin
    have hdL : d = L := by omega
    have hall := clt_all (d := d + 1) ls fun l hl => by have := (h1 l hl).2; omega
    have hs1 := clt_succ d ls
    have hs2 := slt_succ L d ls
    have hle := slt_le L (d + 1) ls
    rw [hdL, Nat.sub_self, Nat.pow_zero] at hs2
    rw [hdL] at hs1 hall hm hK hmin hle ⊢
    rw [Nat.pow_zero] at hK
    refine ⟨[ceq ls L], 0, .stop (Nat.le_refl _) (fun z => ?_) (by omega) (by omega), RR_nonneg _ _ _ h0⟩
    exfalso
    have : ls = [] := by
      cases ls with
      | nil => rfl
      | cons a r => have := h1 a (by simp); omega
    rw [this] at hm
    simp at hm
  | succ t ih =>
    intro d k K hd hm hK hmin
    have hs1 := clt_succ d ls
    have hs2 := slt_succ L d ls
    have hle := slt_le L (d + 1) ls
    have hc1 := clt_le (d + 1) ls
    have hT := TT_ge d vs ls hlen hs
    have hR := RR_step d vs ls
    have hz : d = 0 → ceq ls d = 0 := fun z => by
      have e1 := clt_none (d := d + 1) ls fun l hl => by have := (h1 l hl).1; omega
      omega
    have hp : 0 < 2 ^ (t + 1) := Nat.pow_pos (by decide)
    rw [show L - d = t + 1 by omega] at hs2
    have hcK : ceq ls d ≤ K := by
      have : ceq ls d * 2 ^ (t + 1) ≤ K * 2 ^ (t + 1) := by omega
      exact Nat.le_of_mul_le_mul_right this hp
    by_cases he : clt ls (d + 1) = ls.length
    · exact ⟨[ceq ls d], 0, .stop (by omega) hz (by omega) (by omega), RR_nonneg _ _ _ h0⟩
    · have hlt := slt_lt L (d + 1) ls (by omega)
      have hcK2 : ceq ls d < K := by
        by_cases z : ceq ls d = K
        · rw [z] at hs2
          omega
        · omega
      have hKe : 2 * (K - ceq ls d) * 2 ^ t + slt L ls (d + 1) = 2 ^ L := by
        have e1 : 2 * (K - ceq ls d) * 2 ^ t = (K - ceq ls d) * 2 ^ (t + 1) := by rw [Nat.pow_succ]; grind
        rw [e1, Nat.sub_mul, hs2]
        have : ceq ls d * 2 ^ (t + 1) ≤ K * 2 ^ (t + 1) := Nat.mul_le_mul_right _ hcK
        omega
      obtain ⟨as, c, hp2, hc⟩ := ih (d + 1) (min (2 * (k - ceq ls d)) (vs.length - clt ls d - ceq ls d)) (2 * (K - ceq ls d)) (by omega) (by omega) hKe (by omega)
      rw [hs1] at hp2
      refine ⟨ceq ls d :: as, S vs (clt ls d + ceq ls d) + c, .go (by omega) hz (by omega) (by omega) hp2, ?_⟩
      rw [hs1] at hT
      omega
theorem path_first (hlen : vs.length = ls.length) (hne : ls ≠ []) (h0 : ∀ v ∈ vs, 0 ≤ v) (hs : vs.Pairwise (fun a b => b ≤ a)) (h1 : ∀ l ∈ ls, 1 ≤ l ∧ l ≤ L) (hk : tot L ls ≤ 2 ^ L) : ∃ as c, Pth vs L 0 0 1 as c ∧ c ≤ RR vs ls 0 := by
  have e := clt_none (d := 0) ls fun l hl => Nat.zero_le l
  have e2 := slt_none (L := L) (d := 0) ls fun l hl => Nat.zero_le l
  have := path_of hlen h0 hs h1 hk L 0 1 1 (by omega) (by rw [e]; exact List.length_pos_iff.mpr hne) (by rw [e2]; omega) (by omega)
  rwa [e] at this
end
/-! ### from choices to lengths -/
def lensF : Nat → List Nat → List Nat
  | _, [] => []
  | d, a :: as => List.replicate a d ++ lensF (d + 1) as
theorem RR_app : ∀ (xs ys : List Int) (ls ms : List Nat) (d : Nat), xs.length = ls.length → RR (xs ++ ys) (ls ++ ms) d = RR xs ls d + RR ys ms d
  | [], ys, [], ms, d, _ => by simp [RR]
  | [], ys, _ :: _, ms, d, h => by simp at h
  | _ :: _, ys, [], ms, d, h => by simp at h
  | x :: xs, ys, l :: ls, ms, d, h => by
    have := RR_app xs ys ls ms d (by simpa using h)
    show x * _ + RR (xs ++ ys) (ls ++ ms) d = x * _ + RR xs ls d + RR ys ms d
    omega
theorem RR_rep (d : Nat) : ∀ (xs : List Int) (a : Nat), xs.length = a → RR xs (List.replicate a d) d = 0
  | [], a, h => by simp [RR]
  | x :: xs, 0, h => by simp at h
  | x :: xs, a + 1, h => by
    have := RR_rep d xs a (by simpa using h)
    rw [List.replicate_succ]
    unfold RR
    rw [Nat.sub_self, this]
    simp
theorem TT_all (d : Nat) : ∀ (xs : List Int) (ls : List Nat), xs.length = ls.length → (∀ l ∈ ls, d < l) → TT xs ls d = xs.sum
  | [], _, _, _ => by simp [TT]
  | x :: xs, [], h, _ => by simp at h
  | x :: xs, l :: ls, h, hl => by
    unfold TT
    rw [if_pos (hl l (by simp)), TT_all d xs ls (by simpa using h) fun y hy => hl y (by simp [hy]), List.sum_cons]
theorem tot_app (L : Nat) : ∀ a b : List Nat, tot L (a ++ b) = tot L a + tot L b
  | [], b => by simp [tot]
  | x :: a, b => by
    have := tot_app L a b
    show _ + tot L (a ++ b) = _ + tot L a + tot L b
    omega
theorem tot_rep (L d : Nat) : ∀ a : Nat, tot L (List.replicate a d) = a * 2 ^ (L - d)
  | 0 => by simp [tot]
  | a + 1 => by
    rw [List.replicate_succ, Nat.add_mul]
    unfold tot
    rw [tot_rep L d a]
    omega
theorem lens_of {vs : List Int} {L d m k : Nat} {as : List Nat} {c : Int} (h : Pth vs L d m k as c) (hm : m ≤ vs.length) :
    (lensF d as).length = vs.length - m ∧ RR (vs.drop m) (lensF d as) d = c ∧ tot L (lensF d as) ≤ k * 2 ^ (L - d) ∧ (∀ l ∈ lensF d as, d ≤ l ∧ l ≤ L) ∧ (d = 0 → ∀ l ∈ lensF d as, 1 ≤ l) := by
  induction h with
  | @stop d m k a hd hz ha hak =>
    have e : lensF d [a] = List.replicate a d := by simp [lensF]
    rw [e]
    refine ⟨by rw [List.length_replicate]; omega, RR_rep d _ a (by rw [List.length_drop]; omega), ?_, fun l hl => ?_, fun z l hl => ?_⟩
    · rw [tot_rep]
      exact Nat.mul_le_mul_right _ hak
    · rw [(List.mem_replicate.mp hl).2]
      exact ⟨Nat.le_refl _, hd⟩
    · have := (List.mem_replicate.mp hl).1
      rw [hz z] at this
      exact absurd rfl this
  | @go d m k a as c hd hz ha hak hp ih =>
    obtain ⟨i1, i2, i3, i4, _⟩ := ih (by omega)
    have e : lensF d (a :: as) = List.replicate a d ++ lensF (d + 1) as := rfl
    rw [e]
    have hdr : vs.drop m = (vs.drop m).take a ++ vs.drop (m + a) := by
      rw [← List.drop_drop]
      exact (List.take_append_drop a (vs.drop m)).symm
    refine ⟨by rw [List.length_append, List.length_replicate, i1]; omega, ?_, ?_, fun l hl => ?_, fun z l hl => ?_⟩
    · rw [hdr, RR_app _ _ _ _ _ (by rw [List.length_take, List.length_drop, List.length_replicate]; omega), RR_rep d _ a (by rw [List.length_take, List.length_drop]; omega), RR_step, i2, TT_all d _ _ (by rw [List.length_drop, i1]) fun l hl => by have := (i4 l hl).1; omega]
      show 0 + (S vs (m + a) + c) = _
      omega
    · rw [tot_app, tot_rep]
      have h1 : min (2 * (k - a)) (vs.length - m - a) * 2 ^ (L - (d + 1)) ≤ 2 * (k - a) * 2 ^ (L - (d + 1)) := Nat.mul_le_mul_right _ (Nat.min_le_left _ _)
      have h2 : 2 * (k - a) * 2 ^ (L - (d + 1)) = (k - a) * 2 ^ (L - d) := by
        rw [show L - d = (L - (d + 1)) + 1 by omega, Nat.pow_succ]
        grind
      have h3 : a * 2 ^ (L - d) + (k - a) * 2 ^ (L - d) = k * 2 ^ (L - d) := by
        rw [← Nat.add_mul, show a + (k - a) = k by omega]
      omega
    · rcases List.mem_append.mp hl with y | y
      · rw [(List.mem_replicate.mp y).2]
        omega
      · have := i4 l y
        omega
    · rcases List.mem_append.mp hl with y | y
      · have := (List.mem_replicate.mp y).1
        rw [hz z] at this
        exact absurd rfl this
      · have := (i4 l y).1
        omega
end M04
set_option linter.all false
/-! The values of stages, the choices of the rule, and lengths by symbol. -/
namespace M04
open M03
abbrev Stg := Int × Int × Int
abbrev Cho := Int × Int × Nxt
/-- the least of those that are there, as a loop keeps it -/
def oadd (best price : Option Int) : Option Int :=
  match price with
  | none => best
  | some p =>
    match best with
    | none => some p
    | some b => if p < b then some p else some b
def omin (l : List (Option Int)) : Option Int := l.foldl oadd none
structure IsMin (o : Option Int) (l : List (Option Int)) : Prop where
  none : o = none → ∀ x ∈ l, x = none
  mem : ∀ v, o = some v → some v ∈ l
  le : ∀ v w, o = some v → some w ∈ l → v ≤ w
theorem IsMin.add {o : Option Int} {l : List (Option Int)} (h : IsMin o l) (p : Option Int) : IsMin (oadd o p) (l ++ [p]) := by
  obtain ⟨h1, h2, h3⟩ := h
  cases p with
  | none =>
    refine ⟨fun e x hx => ?_, fun v e => List.mem_append_left _ (h2 v e), fun v w e hw => ?_⟩
    · rcases List.mem_append.mp hx with y | y
      · exact h1 e x y
      · exact List.mem_singleton.mp y
    · rcases List.mem_append.mp hw with y | y
      · exact h3 v w e y
      · exact absurd (List.mem_singleton.mp y) (by simp)
  | some p =>
    cases o with
    | none =>
      refine ⟨fun e => absurd e (by simp [oadd]), fun v e => ?_, fun v w e hw => ?_⟩
      · simp only [oadd] at e
        rw [e]
        simp
      · simp only [oadd] at e
        rcases List.mem_append.mp hw with y | y
        · exact absurd (h1 rfl _ y) (by simp)
        · have := List.mem_singleton.mp y
          rw [e] at this
          exact Int.le_of_eq (Option.some.inj this).symm
    | some b =>
      by_cases z : p < b
      · have e0 : oadd (some b) (some p) = some p := by simp [oadd, z]
        rw [e0]
        refine ⟨fun e => absurd e (by simp), fun v e => by rw [← e]; simp, fun v w e hw => ?_⟩
        have e := Option.some.inj e
        rcases List.mem_append.mp hw with y | y
        · have := h3 b w rfl y
          omega
        · have := Option.some.inj (List.mem_singleton.mp y)
          omega
      · have e0 : oadd (some b) (some p) = some b := by simp [oadd, z]
        rw [e0]
        refine ⟨fun e => absurd e (by simp), fun v e => List.mem_append_left _ (h2 v e), fun v w e hw => ?_⟩
        rcases List.mem_append.mp hw with y | y
        · exact h3 v w e y
        · have := Option.some.inj (List.mem_singleton.mp y)
          have e := Option.some.inj e
          omega
theorem isMin_nil : IsMin (Option.none) [] := ⟨fun _ x hx => by simp at hx, fun v e => by simp at e, fun v w e => by simp at e⟩
theorem omin_go (l : List (Option Int)) : ∀ (pre : List (Option Int)) (o : Option Int), IsMin o pre → IsMin (l.foldl oadd o) (pre ++ l) := by
  induction l with
  | nil => intro pre o h; simpa using h
  | cons x r ih =>
    intro pre o h
    have := ih (pre ++ [x]) (oadd o x) (h.add x)
    simpa using this
theorem omin_is (l : List (Option Int)) : IsMin (omin l) l := by
  have := omin_go l [] none isMin_nil
  rwa [List.nil_append] at this
theorem omin_snoc (l : List (Option Int)) (x : Option Int) : omin (l ++ [x]) = oadd (omin l) x := by
  unfold omin
  rw [List.foldl_append]
  rfl
theorem IsMin.uniq {a b : Option Int} {l : List (Option Int)} (ha : IsMin a l) (hb : IsMin b l) : a = b := by
  cases a with
  | none =>
    cases b with
    | none => rfl
    | some w => exact absurd (ha.none rfl _ (hb.mem w rfl)) (by simp)
  | some v =>
    cases b with
    | none => exact absurd (hb.none rfl _ (ha.mem v rfl)) (by simp)
    | some w =>
      have h1 := ha.le v w rfl (hb.mem w rfl)
      have h2 := hb.le w v rfl (ha.mem v rfl)
      rw [show v = w by omega]
def chS (sums : List Int) (L : Int) (s : Stg) : List Cho := chL sums L s.1 s.2.1 s.2.2
def lsum (f : Stg → Option Int) (c : Cho) : Option Int :=
  match c.2.2 with
  | none => some c.2.1
  | some s => (f s).map (c.2.1 + ·)
def val (sums : List Int) (L : Int) : Nat → Stg → Option Int
  | 0, s => omin ((chS sums L s).map (lsum fun _ => none))
  | t + 1, s => omin ((chS sums L s).map (lsum (val sums L t)))
def V (sums : List Int) (L : Int) (s : Stg) : Option Int := val sums L (L - s.1).toNat s
def SOk (sums : List Int) (L : Int) (s : Stg) : Prop := StOk sums L s.1 s.2.1 s.2.2
def nN (sums : List Int) : Int := (sums.length : Int) - 1
/-- what a choice is -/
inductive IsCh (sums : List Int) (L d m k : Int) : Cho → Prop
  | stop {a : Int} : 0 ≤ a → a ≤ k → m + a = nN sums → (d = 0 → a = 0) → IsCh sums L d m k (a, 0, none)
  | go {a : Int} : 0 ≤ a → a < k → m + a < nN sums → (d = 0 → a = 0) → d ≠ L → IsCh sums L d m k (a, sums.getD (m + a).toNat 0, some (d + 1, m + a, if nN sums - m - a < 2 * (k - a) then nN sums - m - a else 2 * (k - a)))
theorem ch_mem {sums : List Int} {L d m k : Int} (h : StOk sums L d m k) {c : Cho} : c ∈ chL sums L d m k ↔ IsCh sums L d m k c := by
  obtain ⟨hl, hd, hm, hk⟩ := h
  have hN : nN sums = (sums.length : Int) - 1 := rfl
  constructor
  · intro hc
    obtain ⟨a, ha, e⟩ := List.mem_filterMap.mp hc
    have ha := List.mem_range.mp ha
    unfold chN at ha
    rw [← hN] at ha
    have ha2 : (a : Int) ≤ k ∧ m + a ≤ nN sums := by split at ha <;> omega
    unfold chOne at e
    rw [← hN] at e
    simp only [Bool.and_eq_true, decide_eq_true_eq] at e
    by_cases z : d = L
    · simp only [if_pos z, decide_eq_true_eq] at e
      by_cases y : (a : Int) = nN sums - m
      · rw [if_pos ⟨y, by omega⟩] at e
        rw [← Option.some.inj e]
        exact .stop (by omega) ha2.1 (by omega) (by omega)
      · rw [if_neg (fun q => y q.1), if_neg (fun q => y q.1)] at e
        exact absurd e (by simp)
    · simp only [if_neg z, Bool.or_eq_true, decide_eq_true_eq] at e
      by_cases y : 0 < d ∨ (a : Int) = 0
      · by_cases x : m + (a : Int) = nN sums
        · rw [if_pos ⟨y, x⟩] at e
          rw [← Option.some.inj e]
          exact .stop (by omega) ha2.1 x (by omega)
        · rw [if_neg (fun q => x q.2)] at e
          by_cases w : (a : Int) < k
          · rw [if_pos ⟨y, w⟩] at e
            rw [← Option.some.inj e]
            exact .go (by omega) w (by omega) (by omega) z
          · rw [if_neg (fun q => w q.2)] at e
            exact absurd e (by simp)
      · rw [if_neg (fun q => y q.1), if_neg (fun q => y q.1)] at e
        exact absurd e (by simp)
  · intro hc
    refine List.mem_filterMap.mpr ?_
    cases hc with
    | @stop a h0 h1 h2 h3 =>
      refine ⟨a.toNat, List.mem_range.mpr ?_, ?_⟩
      · unfold chN
        rw [← hN]
        split <;> omega
      · have e : ((a.toNat : Nat) : Int) = a := by omega
        unfold chOne
        rw [← hN, e]
        simp only [Bool.and_eq_true, decide_eq_true_eq]
        rw [if_pos]
        refine ⟨?_, h2⟩
        by_cases z : d = L
        · rw [if_pos z]
          exact decide_eq_true (by omega)
        · rw [if_neg z]
          simp only [Bool.or_eq_true, decide_eq_true_eq]
          omega
    | @go a h0 h1 h2 h3 h4 =>
      refine ⟨a.toNat, List.mem_range.mpr ?_, ?_⟩
      · unfold chN
        rw [← hN]
        split <;> omega
      · have e : ((a.toNat : Nat) : Int) = a := by omega
        unfold chOne
        rw [← hN, e]
        simp only [Bool.and_eq_true, decide_eq_true_eq]
        rw [if_neg (fun q => by omega), if_pos]
        refine ⟨?_, h1⟩
        rw [if_neg h4]
        simp only [Bool.or_eq_true, decide_eq_true_eq]
        omega
theorem next_ok {sums : List Int} {L d m k : Int} (h : StOk sums L d m k) {a p : Int} {s : Stg} (hc : IsCh sums L d m k (a, p, some s)) : SOk sums L s ∧ s.1 = d + 1 ∧ d < L := by
  obtain ⟨hl, hd, hm, hk⟩ := h
  cases hc with
  | go h0 h1 h2 h3 h4 =>
    have hN : nN sums = (sums.length : Int) - 1 := rfl
    refine ⟨⟨hl, ?_, ?_, ?_⟩, rfl, by omega⟩
    · show 0 ≤ d + 1 ∧ d + 1 ≤ L
      omega
    · show 0 ≤ m + a ∧ m + a < _
      omega
    · show 1 ≤ if nN sums - m - a < 2 * (k - a) then nN sums - m - a else 2 * (k - a)
      split <;> omega
theorem lsum_congr {f g : Stg → Option Int} {c : Cho} (h : ∀ s, c.2.2 = some s → f s = g s) : lsum f c = lsum g c := by
  unfold lsum
  cases e : c.2.2 with
  | none => rfl
  | some s => simp only [h s e]
theorem V_eq {sums : List Int} {L : Int} {s : Stg} (h : SOk sums L s) : V sums L s = omin ((chS sums L s).map (lsum (V sums L))) := by
  have hm : ∀ c ∈ chS sums L s, ∀ s', c.2.2 = some s' → s'.1 = s.1 + 1 ∧ s.1 < L := fun c hc s' e => by
    obtain ⟨a, p, nx⟩ := c
    have hc := (ch_mem h).mp hc
    have e : nx = some s' := e
    subst e
    exact (next_ok h hc).2
  have hd := h.d
  unfold V
  generalize ht : (L - s.1).toNat = t
  cases t with
  | zero =>
    unfold val
    congr 1
    refine List.map_congr_left fun c hc => lsum_congr fun s' e => ?_
    have := hm c hc s' e
    omega
  | succ t =>
    rw [val]
    congr 1
    refine List.map_congr_left fun c hc => lsum_congr fun s' e => ?_
    have := hm c hc s' e
    rw [show (L - s'.1).toNat = t by omega]
theorem S_get (vs : List Int) : ∀ m, m ≤ vs.length → (restL vs).getD m 0 = S vs m := by
  induction vs with
  | nil => intro m h; simp at h; subst h; rfl
  | cons v r ih =>
    intro m h
    cases m with
    | zero =>
      have := ih 0 (by omega)
      rw [restL_get0] at this
      show v + (restL r).headD 0 = _
      rw [this]
      simp [S]
    | succ m =>
      have := ih m (by simpa using h)
      show (restL r).getD m 0 = _
      rw [this]
      simp [S]
section
variable {vs : List Int} {L : Nat}
def st (d m k : Nat) : Stg := ((d : Int), (m : Int), (k : Int))
theorem nN_rest (vs : List Int) : nN (restL vs) = vs.length := by
  unfold nN; rw [restL_len]; push_cast; omega
theorem sok {d m k : Nat} (hL : 1 ≤ L) (hd : d ≤ L) (hm : m < vs.length) (hk : 1 ≤ k) : SOk (restL vs) L (st d m k) := by
  refine ⟨by omega, ?_, ?_, ?_⟩
  · show (0 : Int) ≤ d ∧ (d : Int) ≤ L
    omega
  · show (0 : Int) ≤ m ∧ (m : Int) < ((restL vs).length : Int) - 1
    rw [restL_len]
    omega
  · show (1 : Int) ≤ k
    omega
theorem mn (x y : Nat) : (if (x : Int) < (y : Int) then (x : Int) else (y : Int)) = ((min y x : Nat) : Int) := by
  split <;> omega
theorem ch_stop {d m k a : Nat} (h1 : a ≤ k) (h2 : m + a = vs.length) (h3 : d = 0 → a = 0) : IsCh (restL vs) L d m k ((a : Int), 0, none) :=
  .stop (by omega) (by omega) (by rw [nN_rest]; omega) (by omega)
theorem ch_go {d m k a : Nat} (h1 : a < k) (h2 : m + a < vs.length) (h3 : d = 0 → a = 0) (h4 : d < L) : IsCh (restL vs) L d m k ((a : Int), S vs (m + a), some (st (d + 1) (m + a) (min (2 * (k - a)) (vs.length - m - a)))) := by
  have h := IsCh.go (sums := restL vs) (L := L) (d := d) (m := m) (k := k) (a := (a : Int)) (by omega) (by omega) (by rw [nN_rest]; omega) (by omega) (by omega)
  have e1 : ((m : Int) + (a : Int)).toNat = m + a := by omega
  have e2 : (vs.length : Int) - m - a = ((vs.length - m - a : Nat) : Int) := by omega
  have e3 : 2 * ((k : Int) - a) = ((2 * (k - a) : Nat) : Int) := by omega
  rw [nN_rest, e1, S_get _ _ (by omega), e2, e3, mn] at h
  have e4 : st (d + 1) (m + a) (min (2 * (k - a)) (vs.length - m - a)) = ((d : Int) + 1, (m : Int) + a, ((min (2 * (k - a)) (vs.length - m - a) : Nat) : Int)) := by
    unfold st
    push_cast
    rfl
  rw [e4]
  exact h
/-- a value is not above what any path costs -/
theorem val_le (hL : 1 ≤ L) {d m k : Nat} {as : List Nat} {c : Int} (h : Pth vs L d m k as c) : m < vs.length → 1 ≤ k → ∃ v, V (restL vs) L (st d m k) = some v ∧ v ≤ c := by
  induction h with
  | @stop d m k a hd hz ha hak =>
    intro hm hk
    have ok := sok (vs := vs) hL hd hm hk
    have hc : ((a : Int), (0 : Int), (none : Nxt)) ∈ chS (restL vs) L (st d m k) := (ch_mem ok).mpr (ch_stop hak ha hz)
    rw [V_eq ok]
    have hi := omin_is ((chS (restL vs) L (st d m k)).map (lsum (V (restL vs) L)))
    have hmem : some (0 : Int) ∈ (chS (restL vs) L (st d m k)).map (lsum (V (restL vs) L)) := List.mem_map.mpr ⟨_, hc, rfl⟩
    cases e : omin ((chS (restL vs) L (st d m k)).map (lsum (V (restL vs) L))) with
    | none => exact absurd (hi.none e _ hmem) (by simp)
    | some v => exact ⟨v, rfl, hi.le v 0 e hmem⟩
  | @go d m k a as c hd hz ha hak hp ih =>
    intro hm hk
    have ok := sok (vs := vs) hL (Nat.le_of_lt hd) hm hk
    obtain ⟨v, hv, hvc⟩ := ih ha (by omega)
    have hc := (ch_mem ok).mpr (ch_go (L := L) hak ha hz hd)
    rw [V_eq ok]
    have hi := omin_is ((chS (restL vs) L (st d m k)).map (lsum (V (restL vs) L)))
    have hmem : some (S vs (m + a) + v) ∈ (chS (restL vs) L (st d m k)).map (lsum (V (restL vs) L)) := List.mem_map.mpr ⟨_, hc, by simp only [lsum, hv]; rfl⟩
    cases e : omin ((chS (restL vs) L (st d m k)).map (lsum (V (restL vs) L))) with
    | none => exact absurd (hi.none e _ hmem) (by simp)
    | some w => exact ⟨w, rfl, by have := hi.le w _ e hmem; omega⟩
/-- the choice of the rule: the last one with the least sum -/
def pick (sums : List Int) (L : Int) (s : Stg) : Option Cho := ((chS sums L s).filter fun c => decide (lsum (V sums L) c = V sums L s)).getLast?
theorem pick_some {sums : List Int} {L : Int} {s : Stg} (h : SOk sums L s) {v : Int} (hv : V sums L s = some v) : ∃ c, pick sums L s = some c ∧ c ∈ chS sums L s ∧ lsum (V sums L) c = some v := by
  have hi := omin_is ((chS sums L s).map (lsum (V sums L)))
  rw [← V_eq h] at hi
  obtain ⟨c, hc, e⟩ := List.mem_map.mp (hi.mem v hv)
  have hf : c ∈ (chS sums L s).filter fun c => decide (lsum (V sums L) c = V sums L s) := List.mem_filter.mpr ⟨hc, decide_eq_true (by rw [e, hv])⟩
  cases e2 : ((chS sums L s).filter fun c => decide (lsum (V sums L) c = V sums L s)).getLast? with
  | none => rw [List.getLast?_eq_none_iff.mp e2] at hf; simp at hf
  | some c' =>
    have hm := List.mem_of_getLast? e2
    obtain ⟨m1, m2⟩ := List.mem_filter.mp hm
    have m2 := of_decide_eq_true m2
    exact ⟨c', e2, m1, by rw [m2, hv]⟩
/-- the choices of the rule, one after the other -/
def due (sums : List Int) (L : Int) : Nat → Stg → List Nat
  | 0, _ => []
  | t + 1, s =>
    match pick sums L s with
    | none => []
    | some c =>
      match c.2.2 with
      | none => [c.1.toNat]
      | some s' => c.1.toNat :: due sums L t s'
theorem due_path (hL : 1 ≤ L) : ∀ (t d m k : Nat) (v : Int), L - d < t → d ≤ L → m < vs.length → 1 ≤ k → V (restL vs) L (st d m k) = some v → Pth vs L d m k (due (restL vs) L t (st d m k)) v := by
  intro t
  induction t with
  | zero => intro d m k v h; omega
  | succ t ih =>
    intro d m k v ht hd hm hk hv
    have ok := sok (vs := vs) hL hd hm hk
    obtain ⟨c, hp, hc, hs⟩ := pick_some ok hv
    have hc := (ch_mem ok).mp hc
    rw [due, hp]
    simp only
    cases hc with
    | @stop a h0 h1 h2 h3 =>
      rw [nN_rest] at h2
      have : v = 0 := (Option.some.inj hs).symm
      subst this
      refine .stop hd (fun z => ?_) ?_ ?_
      · have : (st d m k).1 = 0 := by show (d : Int) = 0; omega
        have := h3 this
        show a.toNat = 0
        omega
      · have : (st d m k).2.1 = m := rfl
        show m + a.toNat = _
        omega
      · have : (st d m k).2.2 = k := rfl
        show a.toNat ≤ k
        omega
    | @go a h0 h1 h2 h3 h4 =>
      have e1 : (st d m k).1 = d := rfl
      have e2 : (st d m k).2.1 = m := rfl
      have e3 : (st d m k).2.2 = k := rfl
      rw [nN_rest, e2] at h2
      rw [e3] at h1
      rw [e1] at h3 h4
      obtain ⟨b, rfl⟩ : ∃ b : Nat, a = b := ⟨a.toNat, by omega⟩
      have h5 := ch_go (vs := vs) (L := L) (d := d) (m := m) (k := k) (a := b) (by omega) (by omega) (by omega) (by omega)
      have e5 : ((restL vs).getD (m + (b : Int)).toNat 0) = S vs (m + b) := by
        rw [show ((m : Int) + (b : Int)).toNat = m + b by omega, S_get _ _ (by omega)]
      have e6 : (((d : Int) + 1, (m : Int) + b, if (vs.length : Int) - m - b < 2 * ((k : Int) - b) then (vs.length : Int) - m - b else 2 * ((k : Int) - b)) : Stg) = st (d + 1) (m + b) (min (2 * (k - b)) (vs.length - m - b)) := by
        have e2 : (vs.length : Int) - m - b = ((vs.length - m - b : Nat) : Int) := by omega
        have e3 : 2 * ((k : Int) - b) = ((2 * (k - b) : Nat) : Int) := by omega
        rw [e2, e3, mn]
        unfold st
        push_cast
        rfl
      simp only [lsum, e1, e2, e3, nN_rest, e5, e6] at hs
      simp only [e1, e2, e3, nN_rest, e6]
      cases hv2 : V (restL vs) L (st (d + 1) (m + b) (min (2 * (k - b)) (vs.length - m - b))) with
      | none => rw [hv2] at hs; simp at hs
      | some w =>
        rw [hv2] at hs
        have hs : S vs (m + b) + w = v := Option.some.inj hs
        rw [← hs]
        exact .go (by omega) (fun z => by omega) (by omega) (by omega) (ih _ _ _ _ (by omega) (by omega) (by omega) (by omega) hv2)
end
end M04
set_option linter.all false
set_option exponentiation.threshold 2048
/-! Lengths by symbol, their cost, and the least of all lists. -/
namespace M04
open M03
def wr (acc : List Int) (d : Nat) (syms : List Nat) : List Int := syms.foldl (fun acc s => acc.set s (d : Int)) acc
def scat (ord : List Nat) : Nat → Nat → List Nat → List Int → List Int
  | _, _, [], acc => acc
  | d, m, a :: as, acc => scat ord (d + 1) (m + a) as (wr acc d ((ord.drop m).take a))
def setAll : List Int → List Nat → List Nat → List Int
  | acc, x :: xs, l :: ls => setAll (acc.set x (l : Int)) xs ls
  | acc, _, _ => acc
theorem setAll_rep (d : Nat) (ys ls : List Nat) : ∀ (xs : List Nat) (acc : List Int), setAll acc (xs ++ ys) (List.replicate xs.length d ++ ls) = setAll (wr acc d xs) ys ls
  | [], acc => by simp [wr]
  | x :: xs, acc => by
    rw [List.length_cons, List.replicate_succ]
    exact setAll_rep d ys ls xs (acc.set x d)
theorem setAll_nil (acc : List Int) : ∀ xs, setAll acc xs [] = acc
  | [] => rfl
  | _ :: _ => rfl
theorem scat_set (ord : List Nat) : ∀ (as : List Nat) (d m : Nat) (acc : List Int), m + as.sum ≤ ord.length → scat ord d m as acc = setAll acc (ord.drop m) (lensF d as)
  | [], d, m, acc, _ => (setAll_nil acc _).symm
  | a :: as, d, m, acc, h => by
    rw [List.sum_cons] at h
    have ih := scat_set ord as (d + 1) (m + a) (wr acc d ((ord.drop m).take a)) (by omega)
    show scat ord (d + 1) (m + a) as _ = setAll acc (ord.drop m) (List.replicate a d ++ lensF (d + 1) as)
    rw [ih]
    have e := setAll_rep d (ord.drop (m + a)) (lensF (d + 1) as) ((ord.drop m).take a) acc
    have e1 : (ord.drop m).take a ++ ord.drop (m + a) = ord.drop m := by
      rw [← List.drop_drop]
      exact List.take_append_drop a (ord.drop m)
    have e2 : ((ord.drop m).take a).length = a := by
      rw [List.length_take, List.length_drop]; omega
    rw [e1, e2] at e
    exact e.symm
theorem lensF_len : ∀ (as : List Nat) (d : Nat), (lensF d as).length = as.sum
  | [], d => rfl
  | a :: as, d => by
    show (List.replicate a d ++ lensF (d + 1) as).length = _
    rw [List.length_append, List.length_replicate, lensF_len as, List.sum_cons]
theorem setAll_len : ∀ (xs ls : List Nat) (acc : List Int), (setAll acc xs ls).length = acc.length
  | [], ls, acc => by cases ls <;> rfl
  | x :: xs, [], acc => rfl
  | x :: xs, l :: ls, acc => by
    show (setAll _ xs ls).length = _
    rw [setAll_len xs ls, List.length_set]
theorem setAll_off : ∀ (xs ls : List Nat) (acc : List Int) (y : Nat), y ∉ xs → (setAll acc xs ls).getD y 0 = acc.getD y 0
  | [], ls, acc, y, _ => by cases ls <;> rfl
  | x :: xs, [], acc, y, _ => rfl
  | x :: xs, l :: ls, acc, y, h => by
    show (setAll _ xs ls).getD y 0 = _
    have hx : x ≠ y := fun e => h (by simp [e])
    rw [setAll_off xs ls _ y fun z => h (by simp [z]), List.getD_eq_getElem?_getD, List.getElem?_set_ne hx, ← List.getD_eq_getElem?_getD]
theorem setAll_on : ∀ (xs ls : List Nat) (acc : List Int), xs.Nodup → (∀ x ∈ xs, x < acc.length) → xs.length = ls.length → xs.map (fun x => (setAll acc xs ls).getD x 0) = ls.map fun (l : Nat) => (l : Int)
  | [], [], acc, _, _, _ => rfl
  | [], _ :: _, acc, _, _, h => by simp at h
  | _ :: _, [], acc, _, _, h => by simp at h
  | x :: xs, l :: ls, acc, hn, hl, h => by
    have hn' := List.nodup_cons.mp hn
    have e : setAll acc (x :: xs) (l :: ls) = setAll (acc.set x (l : Int)) xs ls := rfl
    have ih := setAll_on xs ls (acc.set x (l : Int)) hn'.2 (fun y hy => by rw [List.length_set]; exact hl y (by simp [hy])) (by simpa using h)
    rw [e, List.map_cons, List.map_cons, ih, setAll_off xs ls _ x hn'.1]
    have hx := hl x (by simp)
    congr 1
    rw [List.getD_eq_getElem?_getD, List.getElem?_set_self hx]
    rfl
theorem sum_perm {a b : List Int} (h : a.Perm b) : a.sum = b.sum := by
  induction h with
  | nil => rfl
  | cons x _ ih => rw [List.sum_cons, List.sum_cons, ih]
  | swap x y l => rw [List.sum_cons, List.sum_cons, List.sum_cons, List.sum_cons]; omega
  | trans _ _ ih1 ih2 => rw [ih1, ih2]
theorem nsum_perm {a b : List Nat} (h : a.Perm b) : a.sum = b.sum := by
  induction h with
  | nil => rfl
  | cons x _ ih => rw [List.sum_cons, List.sum_cons, ih]
  | swap x y l => rw [List.sum_cons, List.sum_cons, List.sum_cons, List.sum_cons]; omega
  | trans _ _ ih1 ih2 => rw [ih1, ih2]
/-- the cost by symbol -/
def costI (ws ls : List Int) : Int := ((List.range ws.length).map fun k => ws.getD k 0 * ls.getD k 0).sum
theorem RR_map (f : Nat → Int) (g : Nat → Nat) : ∀ o : List Nat, RR (o.map f) (o.map g) 0 = (o.map fun x => f x * (g x : Int)).sum
  | [] => rfl
  | x :: o => by
    have := RR_map f g o
    rw [List.map_cons, List.map_cons, List.map_cons, List.sum_cons, ← this]
    rfl
theorem tot_map (L : Nat) (g : Nat → Nat) : ∀ o : List Nat, tot L (o.map g) = (o.map fun x => 2 ^ (L - g x)).sum
  | [] => rfl
  | x :: o => by
    rw [List.map_cons, List.map_cons, List.sum_cons, ← tot_map L g o]
    rfl
def asI (F : List Nat) : List Int := F.map fun (l : Nat) => (l : Int)
theorem asI_get (F : List Nat) (k : Nat) : (asI F).getD k 0 = ((F.getD k 0 : Nat) : Int) := by
  unfold asI
  rw [List.getD_eq_getElem?_getD, List.getElem?_map, List.getD_eq_getElem?_getD]
  cases F[k]? <;> rfl
theorem map_get (F : List Nat) : (List.range F.length).map (fun k => F.getD k 0) = F := by
  refine List.ext_getElem (by simp) fun i h1 h2 => ?_
  simp [List.getD_eq_getElem?_getD, h2]
theorem RR_cost {ws : List Int} {F : List Nat} : RR (ranked ws) ((rankL ws).map fun k => F.getD k 0) 0 = costI ws (asI F) := by
  unfold ranked costI
  rw [RR_map, sum_perm ((rank_perm ws).map _)]
  congr 1
  refine List.map_congr_left fun k _ => ?_
  rw [asI_get]
  rfl
theorem tot_rank {ws : List Int} {F : List Nat} (L : Nat) (h : F.length = ws.length) : tot L ((rankL ws).map fun k => F.getD k 0) = tot L F := by
  rw [tot_map, nsum_perm ((rank_perm ws).map _), ← h]
  conv => rhs; rw [← map_get F, tot_map]
/-- any lengths that keep the limit cost at least the value of the first stage -/
theorem first_le {ws : List Int} {F : List Nat} {L : Nat} (hL : 1 ≤ L) (hne : ws ≠ []) (h0 : ∀ v ∈ ws, 0 ≤ v) (hF : F.length = ws.length) (h1 : ∀ l ∈ F, 1 ≤ l ∧ l ≤ L) (hk : tot L F ≤ 2 ^ L) : ∃ v, V (sumsL ws) L (st 0 0 1) = some v ∧ v ≤ costI ws (asI F) := by
  have hpos : 0 < ws.length := List.length_pos_iff.mpr hne
  obtain ⟨as, c, hp, hc⟩ := path_first (vs := ranked ws) (ls := (rankL ws).map fun k => F.getD k 0) (L := L) (by rw [ranked_len, List.length_map, rank_len]) (fun z => by
      have := congrArg List.length z
      rw [List.length_map, rank_len] at this
      have this : ws.length = 0 := this
      omega) (fun v hv => h0 v ((ranked_perm ws).mem_iff.mp hv)) (ranked_desc ws) (fun l hl => by
      obtain ⟨k, hk, rfl⟩ := List.mem_map.mp hl
      have hk := rank_lt hk
      refine h1 _ ?_
      rw [List.getD_eq_getElem?_getD, List.getElem?_eq_getElem (by omega)]
      exact List.getElem_mem _) (by rw [tot_rank L hF]; exact hk)
  obtain ⟨v, hv, hvc⟩ := val_le hL hp (by rw [ranked_len]; exact hpos) (Nat.le_refl _)
  refine ⟨v, hv, ?_⟩
  rw [RR_cost] at hc
  omega
/-- the lengths of the rule, by symbol -/
def dueF (ws : List Int) (L : Nat) : List Nat := due (sumsL ws) L (L + 1) (st 0 0 1)
def lensW (ws : List Int) (L : Nat) : List Int := scat (rankL ws) 0 0 (dueF ws L) (List.replicate ws.length 0)
structure Good (ws : List Int) (L : Nat) (v : Int) (F : List Nat) : Prop where
  len : F.length = ws.length
  bd : ∀ l ∈ F, 1 ≤ l ∧ l ≤ L
  kr : tot L F ≤ 2 ^ L
  co : costI ws (asI F) = v
theorem lens_good {ws : List Int} {L : Nat} {v : Int} (hL : 1 ≤ L) (hne : ws ≠ []) (hv : V (sumsL ws) L (st 0 0 1) = some v) : ∃ F, lensW ws L = asI F ∧ Good ws L v F := by
  have hpos : 0 < ws.length := List.length_pos_iff.mpr hne
  have hp := due_path (vs := ranked ws) hL (L + 1) 0 0 1 v (by omega) (by omega) (by rw [ranked_len]; exact hpos) (Nat.le_refl _) hv
  have hl := lens_of hp (Nat.zero_le _)
  have e : due (restL (ranked ws)) L (L + 1) (st 0 0 1) = dueF ws L := rfl
  rw [e, List.drop_zero] at hl
  obtain ⟨l1, l2, l3, l4, l5⟩ := hl
  have hW : lensW ws L = setAll (List.replicate ws.length 0) (rankL ws) (lensF 0 (dueF ws L)) := by
    have := scat_set (rankL ws) (dueF ws L) 0 0 (List.replicate ws.length 0) (by rw [← lensF_len, l1, rank_len, ranked_len]; omega)
    rw [List.drop_zero] at this
    exact this
  generalize lensF 0 (dueF ws L) = ls at *
  have hnd : (rankL ws).Nodup := (rank_perm ws).nodup_iff.mpr List.nodup_range
  have hn : ls.length = ws.length := by rw [l1, ranked_len]; omega
  have hon := setAll_on (rankL ws) ls (List.replicate ws.length 0) hnd (fun x hx => by rw [List.length_replicate]; exact rank_lt hx) (by rw [rank_len, hn])
  have hlen := setAll_len (rankL ws) ls (List.replicate ws.length 0)
  rw [← hW] at hon hlen
  rw [List.length_replicate] at hlen
  generalize lensW ws L = W at *
  have hnn : ∀ k, k < ws.length → ∃ l ∈ ls, W.getD k 0 = (l : Int) := fun k hk => by
    have : W.getD k 0 ∈ (rankL ws).map (fun x => W.getD x 0) := List.mem_map.mpr ⟨k, ((rank_is ws).mem k).mpr hk, rfl⟩
    rw [hon] at this
    obtain ⟨l, hl, e⟩ := List.mem_map.mp this
    exact ⟨l, hl, e.symm⟩
  refine ⟨W.map Int.toNat, ?_, ?_⟩
  · unfold asI
    rw [List.map_map]
    refine (List.ext_getElem (by simp) fun i h1 h2 => ?_).symm
    obtain ⟨l, hl, e⟩ := hnn i (by rw [← hlen]; exact h2)
    rw [List.getD_eq_getElem?_getD, List.getElem?_eq_getElem h2] at e
    rw [List.getElem_map]
    show ((W[i].toNat : Nat) : Int) = W[i]
    have e : W[i] = (l : Int) := e
    rw [e]
    rfl
  · have hgd : ∀ k, (W.map Int.toNat).getD k 0 = (W.getD k 0).toNat := fun k => by
      rw [List.getD_eq_getElem?_getD, List.getElem?_map, List.getD_eq_getElem?_getD]
      cases W[k]? <;> rfl
    have hF : (W.map Int.toNat).length = ws.length := by rw [List.length_map, hlen]
    have hr : (rankL ws).map (fun k => (W.map Int.toNat).getD k 0) = ls := by
      have h2 : ((rankL ws).map (fun x => W.getD x 0)).map Int.toNat = (ls.map fun (l : Nat) => (l : Int)).map Int.toNat := by rw [hon]
      rw [List.map_map, List.map_map] at h2
      have h3 : ls.map (Int.toNat ∘ fun (l : Nat) => (l : Int)) = ls := by
        have : (Int.toNat ∘ fun (l : Nat) => (l : Int)) = id := funext fun l => by simp
        rw [this, List.map_id]
      rw [h3] at h2
      rw [← h2]
      exact List.map_congr_left fun k _ => hgd k
    have hc := RR_cost (ws := ws) (F := W.map Int.toNat)
    rw [hr, l2] at hc
    refine ⟨hF, fun l hl => ?_, ?_, hc.symm⟩
    · obtain ⟨x, hx, rfl⟩ := List.mem_map.mp hl
      obtain ⟨i, hi, rfl⟩ := List.mem_iff_getElem.mp hx
      obtain ⟨l, hl, e⟩ := hnn i (by rw [← hlen]; exact hi)
      rw [List.getD_eq_getElem?_getD, List.getElem?_eq_getElem hi] at e
      have e : W[i] = (l : Int) := e
      rw [e]
      exact ⟨l5 rfl l hl, (l4 l hl).2⟩
    · have ht := tot_rank (ws := ws) (F := W.map Int.toNat) L hF
      rw [hr] at ht
      rw [← ht]
      simpa using l3
/-- all lists of lengths that keep the limit, as they are made -/
def rowStep (L : Nat) (r : List Nat × Nat) (i : Nat) : Option (List Nat × Nat) := if r.2 + 2 ^ (L - (i + 1)) ≤ 2 ^ L then some (r.1 ++ [i + 1], r.2 + 2 ^ (L - (i + 1))) else none
def rowsL (L : Nat) : Nat → List (List Nat × Nat)
  | 0 => [([], 0)]
  | k + 1 => (rowsL L k).flatMap fun r => (List.range L).filterMap (rowStep L r)
theorem tot_snoc (L : Nat) (F : List Nat) (l : Nat) : tot L (F ++ [l]) = tot L F + 2 ^ (L - l) := by
  rw [tot_app]; simp [tot]
theorem rows_is (L : Nat) : ∀ (k : Nat) (F : List Nat) (u : Nat), (F, u) ∈ rowsL L k → F.length = k ∧ (∀ l ∈ F, 1 ≤ l ∧ l ≤ L) ∧ tot L F = u ∧ u ≤ 2 ^ L
  | 0, F, u, h => by
    have := List.mem_singleton.mp h
    injection this with e1 e2
    subst e1 e2
    refine ⟨rfl, fun l hl => by simp at hl, rfl, Nat.zero_le _⟩
  | k + 1, F, u, h => by
    obtain ⟨r, hr, h⟩ := List.mem_flatMap.mp h
    obtain ⟨i, hi, h⟩ := List.mem_filterMap.mp h
    have hi := List.mem_range.mp hi
    unfold rowStep at h
    by_cases z : r.2 + 2 ^ (L - (i + 1)) ≤ 2 ^ L
    · rw [if_pos z] at h
      have h := Option.some.inj h
      injection h with e1 e2
      obtain ⟨i1, i2, i3, i4⟩ := rows_is L k r.1 r.2 hr
      subst e1 e2
      refine ⟨by rw [List.length_append, i1]; rfl, fun l hl => ?_, by rw [tot_snoc, i3], z⟩
      rcases List.mem_append.mp hl with y | y
      · exact i2 l y
      · rw [List.mem_singleton.mp y]
        omega
    · rw [if_neg z] at h
      exact absurd h (by simp)
theorem rows_all (L : Nat) : ∀ (k : Nat) (F : List Nat), F.length = k → (∀ l ∈ F, 1 ≤ l ∧ l ≤ L) → tot L F ≤ 2 ^ L → (F, tot L F) ∈ rowsL L k
  | 0, F, h, _, _ => by
    rw [List.length_eq_zero_iff.mp h]
    exact List.mem_singleton.mpr rfl
  | k + 1, F, h, h1, hk => by
    have hne : F ≠ [] := fun e => by rw [e] at h; simp at h
    have e := List.dropLast_concat_getLast hne
    generalize F.dropLast = G at e
    generalize F.getLast hne = l at e
    subst e
    rw [tot_snoc] at hk ⊢
    have hl := h1 l (by simp)
    have ih := rows_all L k G (by simpa using h) (fun x hx => h1 x (by simp [hx])) (Nat.le_trans (Nat.le_add_right _ _) hk)
    refine List.mem_flatMap.mpr ⟨_, ih, List.mem_filterMap.mpr ⟨l - 1, List.mem_range.mpr (by omega), ?_⟩⟩
    unfold rowStep
    rw [show l - 1 + 1 = l by omega, if_pos hk]
def bestAll (ws : List Int) (L : Nat) : Option Int := omin ((rowsL L ws.length).map fun r => some (costI ws (asI r.1)))
theorem best_all {ws : List Int} {L : Nat} {v : Int} (hL : 1 ≤ L) (hne : ws ≠ []) (h0 : ∀ v ∈ ws, 0 ≤ v) (hv : V (sumsL ws) L (st 0 0 1) = some v) : bestAll ws L = some v := by
  obtain ⟨F, _, g⟩ := lens_good hL hne hv
  have hi := omin_is ((rowsL L ws.length).map fun r => some (costI ws (asI r.1)))
  have hm : some v ∈ (rowsL L ws.length).map fun r => some (costI ws (asI r.1)) := List.mem_map.mpr ⟨_, rows_all L ws.length F g.len g.bd g.kr, by show some (costI ws (asI F)) = _; rw [g.co]⟩
  unfold bestAll
  cases e : omin ((rowsL L ws.length).map fun r => some (costI ws (asI r.1))) with
  | none => exact absurd (hi.none e _ hm) (by simp)
  | some w =>
    have h1 := hi.le w v e hm
    obtain ⟨r, hr, h2⟩ := List.mem_map.mp (hi.mem w e)
    obtain ⟨i1, i2, i3, i4⟩ := rows_is L _ r.1 r.2 hr
    obtain ⟨v', hv', hle⟩ := first_le hL hne h0 i1 i2 (by rw [i3]; exact i4)
    rw [hv] at hv'
    have := Option.some.inj hv'
    have := Option.some.inj h2
    rw [show w = v by omega]
/-- there are lengths that keep a limit which is not too small -/
theorem first_some {ws : List Int} {L : Nat} (hL : 1 ≤ L) (hne : ws ≠ []) (h0 : ∀ v ∈ ws, 0 ≤ v) (h : ws.length ≤ 2 ^ L) : ∃ v, V (sumsL ws) L (st 0 0 1) = some v := by
  obtain ⟨v, hv, _⟩ := first_le (F := List.replicate ws.length L) hL hne h0 (by simp) (fun l hl => by rw [(List.mem_replicate.mp hl).2]; omega) (by rw [tot_rep, Nat.sub_self]; simpa using h)
  exact ⟨v, hv⟩
theorem kraft_tot (L : Nat) (hL : L ≤ 20) : ∀ F : List Nat, (∀ l ∈ F, 1 ≤ l ∧ l ≤ L) → M01.kraft (asI F) = ((tot L F * 2 ^ (20 - L) : Nat) : Int)
  | [], _ => by simp [asI, M01.kraft, tot]
  | l :: F, h => by
    have ih := kraft_tot L hL F fun x hx => h x (by simp [hx])
    have hl := h l (by simp)
    have e : M01.kraft (asI (l :: F)) = M01.share (l : Int) + M01.kraft (asI F) := by
      unfold asI M01.kraft
      rw [List.map_cons, List.map_cons, List.sum_cons]
    have e2 : M01.share (l : Int) = ((2 ^ (L - l) * 2 ^ (20 - L) : Nat) : Int) := by
      unfold M01.share
      rw [if_neg (by omega), ← Nat.pow_add, show (20 - (l : Int).toNat) = L - l + (20 - L) by omega]
      push_cast
      rfl
    rw [e, ih, e2]
    show _ = (((2 ^ (L - l) + tot L F) * 2 ^ (20 - L) : Nat) : Int)
    rw [Nat.add_mul]
    push_cast
    rfl
theorem good_room {ws : List Int} {L : Nat} {v : Int} {F : List Nat} (hL : L ≤ 20) (g : Good ws L v F) : 0 ≤ M01.roomL (asI F) := by
  have h1 := kraft_tot L hL F g.bd
  have h2 : tot L F * 2 ^ (20 - L) ≤ 2 ^ L * 2 ^ (20 - L) := Nat.mul_le_mul_right _ g.kr
  rw [← Nat.pow_add, show L + (20 - L) = 20 by omega] at h2
  unfold M01.roomL
  rw [h1]
  have : (2 : Nat) ^ 20 = 1048576 := rfl
  omega
end M04
set_option linter.all false
/-! The stages that choices lead to. -/
namespace M04
open M03
inductive Reach (sums : List Int) (L : Int) : Stg → Prop
  | first : Reach sums L (0, 0, 1)
  | next {s s' : Stg} {c : Cho} : Reach sums L s → c ∈ chS sums L s → c.2.2 = some s' → Reach sums L s'
def nexts (sums : List Int) (L : Int) (s : Stg) : List Stg := (chS sums L s).filterMap (·.2.2)
theorem mem_nexts {sums : List Int} {L : Int} {s s' : Stg} : s' ∈ nexts sums L s ↔ ∃ c ∈ chS sums L s, c.2.2 = some s' := by
  unfold nexts
  rw [List.mem_filterMap]
section
variable {sums : List Int} {L : Int} {s s' : Stg}
theorem next_of (h : SOk sums L s) {c : Cho} (hc : c ∈ chS sums L s) (e : c.2.2 = some s') : SOk sums L s' ∧ s'.1 = s.1 + 1 ∧ s.1 < L ∧ s'.2.2 ≤ nN sums := by
  obtain ⟨a, p, nx⟩ := c
  have e : nx = some s' := e
  subst e
  have hc := (ch_mem h).mp hc
  obtain ⟨h1, h2, h3⟩ := next_ok h hc
  refine ⟨h1, h2, h3, ?_⟩
  have hm := h.m
  cases hc with
  | go g0 g1 g2 g3 g4 =>
    show (if nN sums - s.2.1 - a < 2 * (s.2.2 - a) then nN sums - s.2.1 - a else 2 * (s.2.2 - a)) ≤ _
    split <;> omega
theorem Reach.ok (hL : 1 ≤ L) (hn : 1 ≤ nN sums) (h : Reach sums L s) : SOk sums L s ∧ s.2.2 ≤ nN sums := by
  induction h with
  | first => exact ⟨⟨hL, ⟨Int.le_refl _, (show (0 : Int) ≤ L by omega)⟩, ⟨Int.le_refl _, (show (0 : Int) < (sums.length : Int) - 1 by unfold nN at hn; omega)⟩, Int.le_refl _⟩, hn⟩
  | next _ hc e ih =>
    obtain ⟨h1, _, _, h4⟩ := next_of ih.1 hc e
    exact ⟨h1, h4⟩
structure RS (sums : List Int) (L : Int) (ss : List Stg) : Prop where
  nd : ss.Nodup
  iff : ∀ s, s ∈ ss ↔ Reach sums L s
  asc : ss.Pairwise fun a b => a.1 ≤ b.1
def Lv (sums : List Int) (L : Int) (t : Nat) (W : List Stg) : Prop := ∀ s, s ∈ W ↔ Reach sums L s ∧ s.1 = t
structure Inl (sums : List Int) (L : Int) (t : Nat) (W : List Stg) (i : Nat) (ss Fw : List Stg) : Prop where
  nd : ss.Nodup
  iff : ∀ s, s ∈ ss ↔ (Reach sums L s ∧ s.1 < t) ∨ s ∈ W.take i
  asc : ss.Pairwise fun a b => a.1 ≤ b.1
  fw : ∀ s', s' ∈ Fw ↔ ∃ s ∈ W.take i, s' ∈ nexts sums L s
  len : Fw.length ≤ ss.length * 20
theorem lv_zero (hL : 1 ≤ L) (hn : 1 ≤ nN sums) : Lv sums L 0 [(0, 0, 1)] := fun s => by
  constructor
  · intro h
    rw [List.mem_singleton.mp h]
    exact ⟨.first, rfl⟩
  · rintro ⟨h, e⟩
    cases h with
    | first => exact List.mem_singleton.mpr rfl
    | next hr hc e2 =>
      have ok := (hr.ok hL hn).1
      have := (next_of ok hc e2).2.1
      have := ok.d
      exfalso
      have e : s.1 = 0 := e
      omega
theorem inl_zero (hL : 1 ≤ L) (hn : 1 ≤ nN sums) : Inl sums L 0 [(0, 0, 1)] 0 [] [] := ⟨.nil, fun s => by
  constructor
  · intro h; simp at h
  · rintro (⟨h, e⟩ | h)
    · have := ((h.ok hL hn).1).d
      have e : s.1 < 0 := e
      omega
    · simp at h, .nil, fun s' => by simp, by simp⟩
theorem take_mem {W : List Stg} {i : Nat} {x : Stg} (hx : W[i]? = some x) {s : Stg} : s ∈ W.take (i + 1) ↔ s ∈ W.take i ∨ s = x := by
  rw [List.take_succ, hx, List.mem_append]
  simp
theorem Inl.old {t : Nat} {W ss Fw : List Stg} {i : Nat} {x : Stg} (h : Inl sums L t W i ss Fw) (lv : Lv sums L t W) (hx : W[i]? = some x) (hm : x ∈ ss) : Inl sums L t W (i + 1) ss Fw := by
  have hxt := ((lv x).mp (List.mem_of_getElem? hx)).2
  have hin : x ∈ W.take i := by
    rcases (h.iff x).mp hm with ⟨_, z⟩ | z
    · omega
    · exact z
  refine ⟨h.nd, fun s => ?_, h.asc, fun s' => ?_, h.len⟩
  · rw [h.iff, take_mem hx]
    constructor
    · rintro (a | a)
      · exact .inl a
      · exact .inr (.inl a)
    · rintro (a | a | a)
      · exact .inl a
      · exact .inr a
      · rw [a]; exact .inr hin
  · rw [h.fw]
    constructor
    · rintro ⟨s, a, b⟩
      exact ⟨s, (take_mem hx).mpr (.inl a), b⟩
    · rintro ⟨s, a, b⟩
      rcases (take_mem hx).mp a with a | a
      · exact ⟨s, a, b⟩
      · subst a; exact ⟨s, hin, b⟩
theorem Inl.new {t : Nat} {W ss Fw : List Stg} {i : Nat} {x : Stg} (h : Inl sums L t W i ss Fw) (lv : Lv sums L t W) (hx : W[i]? = some x) (hm : x ∉ ss) (hlen : (nexts sums L x).length ≤ 20) : Inl sums L t W (i + 1) (ss ++ [x]) (Fw ++ nexts sums L x) := by
  have hxt := ((lv x).mp (List.mem_of_getElem? hx)).2
  have hle : ∀ s ∈ ss, s.1 ≤ x.1 := fun s hs => by
    rcases (h.iff s).mp hs with ⟨_, z⟩ | z
    · omega
    · have := ((lv s).mp (List.mem_of_mem_take z)).2
      omega
  refine ⟨?_, fun s => ?_, ?_, fun s' => ?_, ?_⟩
  · rw [List.nodup_append]
    refine ⟨h.nd, by simp, fun a ha b hb e => ?_⟩
    rw [List.mem_singleton.mp hb] at e
    subst e
    exact hm ha
  · rw [List.mem_append, h.iff, take_mem hx, List.mem_singleton]
    constructor
    · rintro ((a | a) | a)
      · exact .inl a
      · exact .inr (.inl a)
      · exact .inr (.inr a)
    · rintro (a | a | a)
      · exact .inl (.inl a)
      · exact .inl (.inr a)
      · exact .inr a
  · rw [List.pairwise_append]
    refine ⟨h.asc, List.pairwise_singleton _ _, fun a ha b hb => ?_⟩
    rw [List.mem_singleton.mp hb]
    exact hle a ha
  · rw [List.mem_append, h.fw]
    constructor
    · rintro (⟨s, a, b⟩ | a)
      · exact ⟨s, (take_mem hx).mpr (.inl a), b⟩
      · exact ⟨x, (take_mem hx).mpr (.inr rfl), a⟩
    · rintro ⟨s, a, b⟩
      rcases (take_mem hx).mp a with a | a
      · exact .inl ⟨s, a, b⟩
      · subst a; exact .inr b
  · have := h.len
    rw [List.length_append, List.length_append, List.length_singleton]
    omega
theorem Inl.done (hL : 1 ≤ L) (hn : 1 ≤ nN sums) {t : Nat} {W ss Fw : List Stg} (h : Inl sums L t W W.length ss Fw) (lv : Lv sums L t W) : Lv sums L (t + 1) Fw ∧ ∀ W', Inl sums L (t + 1) W' 0 ss [] := by
  refine ⟨fun s' => ?_, fun W' => ⟨h.nd, fun s => ?_, h.asc, fun s' => by simp, by simp⟩⟩
  · rw [h.fw, List.take_length]
    constructor
    · rintro ⟨s, a, b⟩
      obtain ⟨r, e⟩ := (lv s).mp a
      obtain ⟨c, hc, ec⟩ := mem_nexts.mp b
      have := (next_of (r.ok hL hn).1 hc ec).2.1
      exact ⟨.next r hc ec, by push_cast; omega⟩
    · rintro ⟨r, e⟩
      cases r with
      | first => exfalso; have e : (0 : Int) = ((t + 1 : Nat) : Int) := e; omega
      | @next s _ c hr hc ec =>
        have := (next_of (hr.ok hL hn).1 hc ec).2.1
        exact ⟨s, (lv s).mpr ⟨hr, by push_cast at e; omega⟩, mem_nexts.mpr ⟨c, hc, ec⟩⟩
  · rw [h.iff, List.take_length, lv]
    simp only [List.take_zero, List.not_mem_nil, or_false]
    constructor
    · rintro (⟨a, b⟩ | ⟨a, b⟩)
      · exact ⟨a, by push_cast; omega⟩
      · exact ⟨a, by push_cast; omega⟩
    · rintro ⟨a, b⟩
      push_cast at b
      by_cases z : s.1 < t
      · exact .inl ⟨a, z⟩
      · exact .inr ⟨a, by omega⟩
theorem rs_of (hL : 1 ≤ L) (hn : 1 ≤ nN sums) {t : Nat} {ss : List Stg} (lv : Lv sums L t []) (h : Inl sums L t [] 0 ss []) : RS sums L ss := by
  have key : ∀ s, Reach sums L s → s.1 < t := fun s r => by
    induction r with
    | first =>
      show (0 : Int) < t
      rcases Nat.eq_zero_or_pos t with z | z
      · exact absurd ((lv (0, 0, 1)).mpr ⟨.first, by rw [z]; rfl⟩) (by simp)
      · omega
    | @next s s' c hr hc ec ih =>
      have := (next_of (hr.ok hL hn).1 hc ec).2.1
      by_cases z : s'.1 = t
      · exact absurd ((lv s').mpr ⟨.next hr hc ec, z⟩) (by simp)
      · omega
  refine ⟨h.nd, fun s => ?_, h.asc⟩
  rw [h.iff]
  simp only [List.take_nil, List.not_mem_nil, or_false]
  exact ⟨fun a => a.1, fun a => ⟨a, key s a⟩⟩
theorem lv_end (hL : 1 ≤ L) (hn : 1 ≤ nN sums) {t : Nat} {W : List Stg} (lv : Lv sums L t W) (hne : W ≠ []) : (t : Int) ≤ L := by
  obtain ⟨x, r, e⟩ := List.exists_cons_of_ne_nil hne
  have hx : x ∈ W := by rw [e]; simp
  obtain ⟨h1, h2⟩ := (lv x).mp hx
  have := ((h1.ok hL hn).1).d
  omega
/-- few stages -/
def allSt : List Stg := (List.range 17).flatMap fun (d : Nat) => (List.range 17).flatMap fun (m : Nat) => (List.range 17).map fun (k : Nat) => ((d : Int), (m : Int), (k : Int))
theorem all_len : allSt.length = 4913 := by decide +kernel
theorem few {ss : List Stg} (hL : 1 ≤ L) (hL2 : L ≤ 16) (hn : 1 ≤ nN sums) (hn2 : nN sums ≤ 16) (nd : ss.Nodup) (h : ∀ s ∈ ss, Reach sums L s) : ss.length ≤ 4913 := by
  have sub : ∀ (l m : List Stg), l.Nodup → (∀ x ∈ l, x ∈ m) → l.length ≤ m.length := by
    intro l
    induction l with
    | nil => intro m _ _; exact Nat.zero_le _
    | cons x l ih =>
      intro m h hs
      have h' := List.nodup_cons.mp h
      have hx := hs x List.mem_cons_self
      have h1 := ih (m.erase x) h'.2 fun y hy => (List.mem_erase_of_ne (fun e => h'.1 (by rw [← e]; exact hy))).mpr (hs y (List.mem_cons_of_mem _ hy))
      rw [List.length_erase_of_mem hx] at h1
      have h2 := List.length_pos_of_mem hx
      simp only [List.length_cons]
      omega
  rw [← all_len]
  refine sub ss allSt nd fun s hs => ?_
  obtain ⟨ok, hk⟩ := (h s hs).ok hL hn
  obtain ⟨_, hd, hm, hk1⟩ := ok
  have hm2 : s.2.1 < nN sums := hm.2
  refine List.mem_flatMap.mpr ⟨s.1.toNat, List.mem_range.mpr (by omega), List.mem_flatMap.mpr ⟨s.2.1.toNat, List.mem_range.mpr (by omega), List.mem_map.mpr ⟨s.2.2.toNat, List.mem_range.mpr (by omega), ?_⟩⟩⟩
  have hm3 := hm.1
  obtain ⟨d, m, k⟩ := s
  simp only [Prod.mk.injEq] at *
  exact ⟨by omega, by omega, by omega⟩
theorem ch_len {d m k : Int} (hk : k ≤ 16) : (chL sums L d m k).length ≤ 17 := by
  unfold chL
  have := List.length_filterMap_le (chOne sums L d m k) (List.range (chN sums m k))
  rw [List.length_range] at this
  have h2 : chN sums m k ≤ 17 := by
    unfold chN
    split <;> omega
  omega
theorem nexts_len (hk : s.2.2 ≤ 16) : (nexts sums L s).length ≤ 20 := by
  have h1 := List.length_filterMap_le (fun c : Cho => c.2.2) (chS sums L s)
  have h2 := ch_len (sums := sums) (L := L) (d := s.1) (m := s.2.1) hk
  show ((chS sums L s).filterMap (·.2.2)).length ≤ 20
  unfold chS at *
  omega
/-- what is behind a stage in the other order -/
theorem RS.behind {ss A B : List Stg} (h : RS sums L ss) (e : ss = A ++ s :: B) (hL : 1 ≤ L) (hn : 1 ≤ nN sums) {c : Cho} (hc : c ∈ chS sums L s) (ec : c.2.2 = some s') : s' ∈ B := by
  have hs : Reach sums L s := (h.iff s).mp (by rw [e]; simp)
  have h1 := (next_of (hs.ok hL hn).1 hc ec).2.1
  have hm := (h.iff s').mpr (.next hs hc ec)
  have ha := h.asc
  rw [e] at hm ha
  rw [List.pairwise_append] at ha
  rcases List.mem_append.mp hm with z | z
  · have := ha.2.2 s' z s (by simp)
    omega
  · rcases List.mem_cons.mp z with z | z
    · rw [z] at h1
      omega
    · exact z
end
end M04
set_option Elab.async false
set_option linter.all false
set_option maxRecDepth 100000
set_option maxHeartbeats 4000000
namespace K16L
open PySem PySem.Spec PyProof.Rows L2 GX KC Evl M03 M04
/-! ### stages as keys and as data -/
def keyS (s : Stg) : List Key := KC.stK s.1 s.2.1 s.2.2
theorem keyS_inj {s s' : Stg} (h : keyS s = keyS s') : s = s' := by
  obtain ⟨a, b, c⟩ := s
  obtain ⟨d, e, f⟩ := s'
  simp only [keyS, KC.stK, List.cons.injEq, Sum.inl.injEq, and_true] at h
  obtain ⟨rfl, rfl, rfl⟩ := h
  rfl
def stV (s : Stg) : List V := [.int s.1, .int s.2.1, .int s.2.2]
theorem keyS_V (s : Stg) : (keyS s).map kV = stV s := rfl
def stD (s : Stg) : PyData := .tuple [.int s.1, .int s.2.1, .int s.2.2]
theorem stD_noList (s : Stg) : noList (stD s) = true := rfl
structure GF (K : PySem.W.Frag) (mg : Str → Option Value) (tf : Addr) : Prop where
  g_FIRST : mg "FIRST" = some (.ref tf)
  st : ∀ H, SqT K H tf [.int 0, .int 0, .int 1]
section
variable {P : Program} {w : World} {K : PySem.W.Frag} {mg : Str → Option Value} {base : Heap}
theorem stD_at {H : Hp} {v : V} {s : Stg} (h : Dp K H v (stD s)) : ∃ t, v = .ref t ∧ SqT K H t (stV s) := by
  cases h with
  | tup h1 h2 =>
    refine ⟨_, rfl, ?_⟩
    cases h2 with
    | cons a b => cases a; cases b with
      | cons a b => cases a; cases b with
        | cons a b => cases a; cases b; exact h1
theorem stD_mk {H : Hp} {t : Addr} {s : Stg} (h : SqT K H t (stV s)) : Dp K H (.ref t) (stD s) := .tup h (.cons (.int _) (.cons (.int _) (.cons (.int _) .nil)))
theorem dp_get {H : Hp} : ∀ {vs : List V} {ds : List PyData} {i : Nat} {x : V}, DpAll K H vs ds → vs[i]? = some x → ∃ d, ds[i]? = some d ∧ Dp K H x d
  | _, _, _, _, .nil, h => by simp at h
  | _, _, 0, _, .cons a _, h => ⟨_, rfl, by rw [← Option.some.inj (show some _ = some _ from h)]; exact a⟩
  | _, _, i + 1, _, .cons _ b, h => by
    obtain ⟨d, h1, h2⟩ := dp_get b (by simpa using h)
    exact ⟨d, by simpa using h1, h2⟩
theorem dp_appAll {H : Hp} : ∀ {vs us : List V} {ds es : List PyData}, DpAll K H vs ds → DpAll K H us es → DpAll K H (vs ++ us) (ds ++ es)
  | _, _, _, _, .nil, h => h
  | _, _, _, _, .cons a b, h => .cons a (dp_appAll b h)
/-- a choice, in its parts -/
theorem ch_at {H : Hp} {v : V} {c : Cho} (h : Dp K H v (chD c)) : ∃ t n, v = .ref t ∧ SqT K H t [.int c.1, .int c.2.1, n] ∧ Dp K H n (nxD c.2.2) := by
  obtain ⟨a, p, nx⟩ := c
  have h : Dp K H v (.tuple [.int a, .int p, nxD nx]) := h
  cases h with
  | tup h1 h2 =>
    cases h2 with
    | cons a b => cases a; cases b with
      | cons a b => cases a; cases b with
        | cons a b => cases b; exact ⟨_, _, rfl, h1, a⟩
theorem nx_some {H : Hp} {n : V} {s : Stg} {nx : Nxt} (h : Dp K H n (nxD nx)) (e : nx = some s) : ∃ t, n = .ref t ∧ SqT K H t (stV s) := by
  subst e
  obtain ⟨d, m, k⟩ := s
  exact stD_at (s := (d, m, k)) h
theorem nx_none {H : Hp} {n : V} {nx : Nxt} (h : Dp K H n (nxD nx)) (e : nx = none) : n = .non := by
  subst e
  cases h
  rfl
theorem nx_is {H : Hp} {n : V} {nx : Nxt} (h : Dp K H n (nxD nx)) : decide (n = .non) = nx.isNone := by
  cases nx with
  | none => rw [nx_none h rfl]; rfl
  | some s =>
    obtain ⟨t, e, _⟩ := nx_some h rfl
    rw [e]
    rfl
/-! ### the dict of stages with their choices -/
structure ChAt (K : PySem.W.Frag) (sums : List Int) (L : Int) (H : Hp) (kv : List Key × V) (s : Stg) : Prop where
  key : kv.1 = keyS s
  ob : ∃ c vs, kv.2 = .ref c ∧ H c = some (.lst vs) ∧ DpAll K H vs (chsD (chS sums L s))
abbrev RCh (K : PySem.W.Frag) (sums : List Int) (L : Int) (H : Hp) : List (List Key × V) → List Stg → Prop := Paired (ChAt K sums L H)
theorem rch_ext {sums : List Int} {L : Int} {H H' : Hp} {kvs : List (List Key × V)} {ss : List Stg} (e : Ex H H') (h : RCh K sums L H kvs ss) : RCh K sums L H' kvs ss := Paired.mapP h fun kv s z => by
  obtain ⟨h1, c, vs, h2, h3, h4⟩ := z
  exact ⟨h1, c, vs, h2, e _ _ h3, DpAll.ext e _ _ h4⟩
/-- a list that is none of them is written -/
theorem rch_put {sums : List Int} {L : Int} {H : Hp} {kvs : List (List Key × V)} {ss : List Stg} {p : Addr} {zs ys : List V} (hp : H p = some (.lst zs)) (hn : ∀ kv ∈ kvs, kv.2 ≠ .ref p) (h : RCh K sums L H kvs ss) : RCh K sums L (upd H p (.lst ys)) kvs ss := by
  induction h with
  | nil => exact .nil
  | cons z t ih =>
    obtain ⟨h1, c, vs, h2, h3, h4⟩ := z
    refine .cons ⟨h1, c, vs, h2, ?_, DpAll.put hp _ _ (chsD_noList _) h4⟩ (ih fun kv hk => hn kv (List.mem_cons_of_mem _ hk))
    have : c ≠ p := fun e => hn _ List.mem_cons_self (by rw [h2, e])
    rw [upd_ne this]
    exact h3
theorem rch_but {sums : List Int} {L : Int} {H H' : Hp} {kvs : List (List Key × V)} {ss : List Stg} {d : Addr} {φ : Heap → Prop} (hd : H d = some (.ext φ)) (k : ∀ c, c ≠ d → H' c = H c) (h : RCh K sums L H kvs ss) : RCh K sums L H' kvs ss := Paired.mapP h fun kv s z => by
  obtain ⟨h1, c, vs, h2, h3, h4⟩ := z
  exact ⟨h1, c, vs, h2, by rw [k c (fun e => by rw [e, hd] at h3; cases h3)]; exact h3, DpAll.keepT (fun b ys => sqt_but hd k) _ _ (chsD_noList _) h4⟩
theorem rch_mem {sums : List Int} {L : Int} {H : Hp} {kvs : List (List Key × V)} {ss : List Stg} (h : RCh K sums L H kvs ss) (s : Stg) : (valV kvs (keyS s)).isSome = decide (s ∈ ss) := by
  induction h with
  | nil => rw [valV_nil]; simp
  | @cons kv x kvs ss z t ih =>
    by_cases e : s = x
    · subst e
      rw [valV_pos z.key]
      simp
    · rw [valV_neg (fun q => e (keyS_inj (z.key ▸ q)).symm), ih]
      simp [e]
theorem rch_val {sums : List Int} {L : Int} {H : Hp} {kvs : List (List Key × V)} {ss : List Stg} {s : Stg} (h : RCh K sums L H kvs ss) (hs : s ∈ ss) : ∃ c vs, valV kvs (keyS s) = some (.ref c) ∧ H c = some (.lst vs) ∧ DpAll K H vs (chsD (chS sums L s)) := by
  induction h with
  | nil => simp at hs
  | @cons kv x kvs ss z t ih =>
    by_cases e : s = x
    · subst e
      obtain ⟨h1, c, vs, h2, h3, h4⟩ := z
      exact ⟨c, vs, by rw [valV_pos h1, h2], h3, h4⟩
    · rw [valV_neg (fun q => e (keyS_inj (z.key ▸ q)).symm)]
      exact ih (by
        rcases List.mem_cons.mp hs with q | q
        · exact absurd q e
        · exact q)
theorem rch_ref {sums : List Int} {L : Int} {H : Hp} {kvs : List (List Key × V)} {ss : List Stg} {p : Addr} (hp : H p = none) (h : RCh K sums L H kvs ss) : ∀ kv ∈ kvs, kv.2 ≠ .ref p := by
  induction h with
  | nil => intro kv hk; simp at hk
  | @cons kv x kvs ss z t ih =>
    intro kv' hk e
    rcases List.mem_cons.mp hk with q | q
    · subst q
      obtain ⟨h1, c, vs, h2, h3, h4⟩ := z
      rw [h2] at e
      injection e with e
      rw [e, hp] at h3
      cases h3
    · exact ih kv' q e
/-! ### the stages behind a stage, as a comprehension makes them -/
def isGo (cs : List Cho) (i : Nat) : Bool := match cs[i]? with
  | some c => c.2.2.isSome
  | none => false
theorem chs_split {H : Hp} : ∀ {vs : List V} {cs : List Cho}, DpAll K H vs (chsD cs) → ∃ ns : List V, ns.length = cs.length ∧ vs.length = cs.length ∧ ∀ (i : Nat) (c : Cho), cs[i]? = some c → ∃ (t : Addr) (n : V), vs[i]? = some (.ref t) ∧ ns[i]? = some n ∧ SqT K H t [.int c.1, .int c.2.1, n] ∧ Dp K H n (nxD c.2.2)
  | _, [], h => by
    cases h
    exact ⟨[], rfl, rfl, fun i c z => by simp at z⟩
  | _, c :: cs, h => by
    cases h with
    | cons a b =>
      obtain ⟨ns, h1, h2, h3⟩ := chs_split b
      obtain ⟨t, n, rfl, hs, hd⟩ := ch_at a
      refine ⟨n :: ns, by simp [h1], by simp [h2], fun i c' hc => ?_⟩
      cases i with
      | zero =>
        have := Option.some.inj (show some c = some c' from hc)
        subst this
        exact ⟨t, n, rfl, rfl, hs, hd⟩
      | succ i => simpa using h3 i c' (by simpa using hc)
theorem go_list {H : Hp} {cs : List Cho} {ns : List V} (hd : ∀ (i : Nat) (c : Cho), cs[i]? = some c → ∃ n : V, ns[i]? = some n ∧ Dp K H n (nxD c.2.2)) : ∀ i, i ≤ cs.length → DpAll K H (given i (isGo cs) fun j => ns.getD j .non) (((cs.take i).filterMap (·.2.2)).map stD)
  | 0, _ => .nil
  | i + 1, h => by
    have ih := go_list hd i (by omega)
    have hi : i < cs.length := by omega
    have hc : cs[i]? = some cs[i] := List.getElem?_eq_getElem hi
    generalize cs[i] = c at hc
    obtain ⟨n, hn, hdn⟩ := hd i c hc
    rw [fm_take _ _ hc]
    have hg : isGo cs i = c.2.2.isSome := by unfold isGo; rw [hc]
    have hnv : ns.getD i .non = n := by rw [List.getD_eq_getElem?_getD, hn]; rfl
    cases e : c.2.2 with
    | none =>
      rw [e] at hg
      rw [given_no hg]
      simpa using ih
    | some s =>
      rw [e] at hg
      rw [given_yes hg, hnv, List.map_append]
      obtain ⟨t, rfl, ht⟩ := nx_some hdn e
      exact dp_appAll ih (.cons (stD_mk ht) .nil)
end
end K16L
set_option Elab.async false
set_option linter.all false
set_option maxRecDepth 100000
set_option maxHeartbeats 4000000
namespace K16L
open PySem PySem.Spec PyProof.Rows L2 GX KC Evl M03 M04
section
variable {P : Program} {w : World} {K : PySem.W.Frag} {mg : Str → Option Value} {base : Heap}
/-- weights and a limit -/
structure WIn (K : PySem.W.Frag) (ws : List Int) (L : Nat) (l : Addr) (H : Hp) : Prop where
  sq : SqL K H l (ws.map V.int)
  n1 : 1 ≤ ws.length
  n2 : ws.length ≤ 16
  l1 : 1 ≤ L
  l2 : L ≤ 16
theorem WIn.ext {ws : List Int} {L : Nat} {l : Addr} {H H' : Hp} (e : Ex H H') (h : WIn K ws L l H) : WIn K ws L l H' := ⟨ex_l e h.sq, h.n1, h.n2, h.l1, h.l2⟩
theorem nN_sums (ws : List Int) : nN (sumsL ws) = ws.length := by
  unfold nN; rw [sumsL_len]; push_cast; omega
def spReach (P : Program) (w : World) (K : PySem.W.Frag) : Sp := fun vs H Q _ => ∃ (l : Addr) (ws : List Int) (L : Nat), vs = [.ref l, .int (L : Int)] ∧ WIn K ws L l H ∧
  ∀ d kvs ss H2, H d = none → Ex H H2 → DAt P w K H2 d kvs → RCh K (sumsL ws) L H2 kvs ss → RS (sumsL ws) L ss → Q (.ref d) H2
theorem spl_sums {H : Hp} {l : Addr} {ws : List Int} (hs : SqL K H l (ws.map V.int)) (hn : ws.length ≤ 64) : SpL (spSums K) ([.ref l] ++ []) H ((sumsL ws).map V.int) := fun H1 e1 Q q E => ⟨l, ws, rfl, ex_l e1 hs, hn, q⟩
theorem spd_ch {H : Hp} {l t : Addr} {sums : List Int} {L : Nat} {s : Stg} (hs : SqL K H l (sums.map V.int)) (ht : SqT K H t (stV s)) (ok : SOk sums L s) (hl : sums.length ≤ 1000) (hk : s.2.2 ≤ 1000) : SpLD K (spCh K chP) ([.ref l, .int (L : Int), .ref t] ++ []) H (chsD (chS sums L s)) := fun H1 e1 Q q E => ⟨l, t, sums, L, s.1, s.2.1, s.2.2, rfl, ⟨ex_l e1 hs, ex_t e1 ht, ok, hl, hk⟩, by
    rw [ch_same ok]
    exact fun p vs H2 hp e h hd => q p vs H2 hp e h hd⟩
theorem spd_chL {H : Hp} {l t : Addr} {sums : List Int} {L : Nat} {s : Stg} (hs : SqL K H l (sums.map V.int)) (ht : SqT K H t (stV s)) (ok : SOk sums L s) (hl : sums.length ≤ 1000) (hk : s.2.2 ≤ 1000) : SpLD K (spCh K chL) ([.ref l, .int (L : Int), .ref t] ++ []) H (chsD (chS sums L s)) := fun H1 e1 Q q E => ⟨l, t, sums, L, s.1, s.2.1, s.2.2, rfl, ⟨ex_l e1 hs, ex_t e1 ht, ok, hl, hk⟩,
    fun p vs H2 hp e h hd => q p vs H2 hp e h hd⟩
/-- what stands while stages are searched for -/
structure RW (P : Program) (w : World) (K : PySem.W.Frag) (ws : List Int) (L : Nat) (H H' : Hp) (ls d : Addr) (kvs : List (List Key × V)) (ss : List Stg) : Prop where
  ex : Ex H H'
  sq : H' ls = some (.lst ((sumsL ws).map V.int))
  da : DAt P w K H' d kvs
  rc : RCh K (sumsL ws) L H' kvs ss
theorem RW.go {ws : List Int} {L : Nat} {H H' H2 : Hp} {ls d : Addr} {kvs : List (List Key × V)} {ss : List Stg} (h : RW P w K ws L H H' ls d kvs ss) (e : Ex H' H2) : RW P w K ws L H H2 ls d kvs ss := ⟨h.ex.trans e, e _ _ h.sq, h.da.ext e, rch_ext e h.rc⟩
theorem lt64 {n : Nat} (h : n + 64 < cLine) : n + 1 < cLine := by omega
theorem ok_reached_stages {f : Addr} {fd : FuncData} {k : Nat} {tf : Addr} (T : GF K mg tf) (F : Fun K "reached_stages" "reached_stages" s_reached_stages f fd) (B : Bs mg) (C_rests : Cal P w K mg base "rests" 1 ["weights"] (spSums K)) (C_stage_choices : Cal P w K mg base "stage_choices" 2 ["sums", "limit", "stage"] (spCh K chP)) :
    FnOk P w K mg base CX0 (k + 3) f fd ["weights", "limit"] (spReach P w K) := by
  refine F.ok sc_reached_stages (fun vs H Q E h => ?_) (fun cdv A outer s H vs Q E hr h => ?_)
  · obtain ⟨l, ws, L, rfl, _⟩ := h
    rfl
  · obtain ⟨l, ws, L, rfl, hw, q⟩ := h
    have hu := lt64 hr.units
    refine ⟨_, (pss_cons (ps_set (i := 2) sc_reached_stages.nd rfl (Or.inl rfl) (pe_callC C_rests (hr.mono (by omega)) (by rfl) (pa_cons (pv 0) pa_nil)))
      (pss_cons (ps_set (i := 3) sc_reached_stages.nd rfl (Or.inl rfl) (pe_dnewX (P := P) (w := w) (K := K) ⟨rfl, rfl, rfl⟩))
      (pss_cons (ps_set (i := 4) sc_reached_stages.nd rfl (Or.inl rfl) (pe_lst (pa_cons (pe_glob (v := (.ref tf)) (by rfl) T.g_FIRST rfl) pa_nil)))
      (pss_cons (ps_while PassesOwn.never (pt_truth (pv 4) (by intro _; rfl)) (pss_cons (ps_set (i := 5) sc_reached_stages.nd rfl (Or.inl rfl) (pe_lst pa_nil))
      (pss_cons (ps_for PassesOwn.never rfl (pi_list (pv 4)) (pg_name (i := 6) sc_reached_stages.nd rfl (Or.inl rfl)) (pss_one (ps_if (pt_cmp (pc_dnotinX (P := P) (w := w) (K := K) ⟨rfl, rfl, rfl⟩ hu (pv 6) (pv 3))) (pss_cons (ps_dputX (P := P) (w := w) (K := K) ⟨rfl, rfl, rfl⟩ hu (pv 3) (pv 6) (pe_callC C_stage_choices (hr.mono (by omega)) (by rfl) (pa_cons (pv 2) (pa_cons (pv 1) (pa_cons (pv 6) pa_nil)))) rfl)
      (pss_one (ps_expr (pe_bm PySem.F.plainAttrs_list PySem.F.slot_list_extend PySem.F.type_list_extend mt_extend (pv 5) (pa_cons (pe_lc rfl sc_reached_stages.nd (pi_list (pe_dgx (P := P) (w := w) (K := K) ⟨rfl, rfl, rfl⟩ hu (pv 3) (pv 6) (fun _ _ => rfl))) (blkOk_by (own := [("choice", 7)]) (N := ["weights", "limit", "sums", "found", "waiting", "following", "stage", "choice"]) (sc := defScope s_reached_stages) (by decide +kernel)) (fun _ _ _ _ _ => (pg_name (i := 7) sc_reached_stages.nd rfl (Or.inl rfl))) (fun _ _ _ _ _ => (pts_one (pt_cmpR op_notN (pe_ix (ix_tupK (K := K) rfl) (pv 7) pe_int (fun _ _ => rfl)) pe_non (nomark _)))) (fun _ _ _ _ _ => (pe_ix (ix_tupK (K := K) rfl) (pv 7) pe_int (fun _ _ => rfl)))) pa_nil))))) pss_nil)))
      (pss_one (ps_set (i := 4) sc_reached_stages.nd rfl (Or.inl rfl) (pv 5))))))
      (pss_one (ps_ret (pv 3))))))), ?_⟩
    have hn1 : 1 ≤ nN (sumsL ws) := by have := hw.n1; rw [nN_sums]; omega
    have hn2 : nN (sumsL ws) ≤ 16 := by have := hw.n2; rw [nN_sums]; omega
    have hL1 : (1 : Int) ≤ L := by have := hw.l1; omega
    have hL2 : (L : Int) ≤ 16 := by have := hw.l2; omega
    refine q_asgL (el_call (ea1 (ev_var rfl)) (spl_sums hw.sq (by have := hw.n2; omega))) fun ls H1 hls e1 h1 => ?_
    refine q_dnew (K := K) fun d H2 hd2 e2 hda => ?_
    have hd0 : H d = none := fresh_back e1 hd2
    refine q_asgL (el_lst (ea1 ev_c) (by show 1 ≤ 100000; decide)) fun wa H3 hwa e3 h3 => ?_
    refine q_while (fun m σ H' => ∃ (t : Nat) (wa : Addr) (wv : List V) (W : List Stg) (kvs : List (List Key × V)) (ss : List Stg) (a b c : Option V), m = L + 1 - t ∧ σ = [some (.ref l), some (.int (L : Int)), some (.ref ls), some (.ref d), some (.ref wa), a, b, c] ∧ RW P w K ws L H H' ls d kvs ss ∧
        H' wa = some (.lst wv) ∧ DpAll K H' wv (W.map stD) ∧ Lv (sumsL ws) L t W ∧ Inl (sumsL ws) L t W 0 ss []) (L + 1)
      ⟨0, wa, _, [(0, 0, 1)], [], [], none, none, none, rfl, rfl, ⟨(e1.trans e2).trans e3, (e2.trans e3) _ _ h1, hda.ext e3, .nil⟩, h3, .cons (stD_mk (s := (0, 0, 1)) (T.st _)) .nil, lv_zero hL1 hn1, inl_zero hL1 hn1⟩ ?_
    rintro m σ H' ⟨t, wa, wv, W, kvs, ss, a, b, c, rfl, rfl, rw, hwa, hwd, lv, inl⟩
    refine ⟨_, et_truL (ev_var rfl) (sq_of hwa), fun hb H4 e4 => ?_, fun hb H4 e4 => ?_⟩
    · have hWl : wv.length = W.length := by rw [DpAll.len hwd, List.length_map]
      have hWne : W ≠ [] := fun z => by
        rw [z] at hWl
        have : wv = [] := List.eq_nil_of_length_eq_zero hWl
        rw [this] at hb
        simp at hb
      have htL := lv_end hL1 hn1 lv hWne
      refine ⟨fun σ H' => ∃ (wa : Addr) (wv : List V) (W : List Stg) (kvs : List (List Key × V)) (ss : List Stg) (a b c : Option V), σ = [some (.ref l), some (.int (L : Int)), some (.ref ls), some (.ref d), some (.ref wa), a, b, c] ∧ RW P w K ws L H H' ls d kvs ss ∧
        H' wa = some (.lst wv) ∧ DpAll K H' wv (W.map stD) ∧ Lv (sumsL ws) L (t + 1) W ∧ Inl (sumsL ws) L (t + 1) W 0 ss [], fun σ2 H2 ⟨wa, wv, W, kvs, ss, a, b, c, h⟩ => ⟨L + 1 - (t + 1), by omega, t + 1, wa, wv, W, kvs, ss, a, b, c, rfl, h⟩, ?_⟩
      refine q_asgL (el_lst ea_nil (by decide)) fun p H5 hp e5 h5 => ?_
      have r5 := rw.go (e4.trans e5)
      have r4 := rw.go e4
      have hwp : wa ≠ p := fun z => by rw [← z, e4 _ _ hwa] at hp; cases hp
      have hlp : ls ≠ p := fun z => by rw [← z, r4.sq] at hp; cases hp
      have hdp : d ≠ p := fun z => by
        obtain ⟨φ, e⟩ := r4.da.isX
        rw [z, hp] at e
        cases e
      have hp0 : H p = none := fresh_back r4.ex hp
      have hw5 : SqL K H5 wa wv := sq_of (e5 _ _ (e4 _ _ hwa))
      refine q_forLn (ev_var rfl) hw5
        (fun i σ H' => ∃ (kvs : List (List Key × V)) (ss Fw : List Stg) (fv : List V) (b c : Option V), σ = [some (.ref l), some (.int (L : Int)), some (.ref ls), some (.ref d), some (.ref wa), some (.ref p), b, c] ∧ RW P w K ws L H H' ls d kvs ss ∧
          H' wa = some (.lst wv) ∧ DpAll K H' wv (W.map stD) ∧ H' p = some (.lst fv) ∧ DpAll K H' fv (Fw.map stD) ∧ Inl (sumsL ws) L t W i ss Fw ∧ ∀ kv ∈ kvs, kv.2 ≠ .ref p)
        (fun H6 e6 => ⟨kvs, ss, [], [], b, c, rfl, r5.go e6, e6 _ _ (e5 _ _ (e4 _ _ hwa)), DpAll.ext ((e4.trans e5).trans e6) _ _ hwd, e6 _ _ h5, .nil, inl, rch_ref hp r4.rc⟩)
        (fun i σ H' _ hP => by
          obtain ⟨_, _, _, _, _, _, _, _, z, _⟩ := hP
          exact sq_of z) ?_ ?_
      · rintro i x σ H6 hx ⟨kvs, ss, Fw, fv, b, c, rfl, r6, hwa6, hwd6, hp6, hfd, inl, hnp⟩
        obtain ⟨dd, hdd, hxd⟩ := dp_get hwd6 hx
        obtain ⟨sg, hsg, rfl⟩ : ∃ sg, W[i]? = some sg ∧ dd = stD sg := by
          rw [List.getElem?_map] at hdd
          cases e : W[i]? with
          | none => rw [e] at hdd; cases hdd
          | some sg => rw [e] at hdd; exact ⟨sg, rfl, (Option.some.inj hdd).symm⟩
        obtain ⟨tt, rfl, hst⟩ := stD_at hxd
        have hreach := ((lv sg).mp (List.mem_of_getElem? hsg)).1
        obtain ⟨hok, hk16⟩ := hreach.ok hL1 hn1
        have hmem := rch_mem r6.rc sg
        refine s_when (et_B (ev_dnotinX (ev_var rfl) (ev_var rfl) r6.da (k := keyS sg) hst)) (fun hb H7 e7 => ?_) (fun hb H7 e7 => ?_)
        · rw [hmem] at hb
          have hnm : sg ∉ ss := by simpa using hb
          have hvn : valV kvs (keyS sg) = none := by
            cases e : valV kvs (keyS sg) with
            | none => rfl
            | some y => rw [e] at hmem; simp [hnm] at hmem
          have hkl : kvs.length ≤ 4913 := by
            rw [Paired.length r6.rc]
            refine few hL1 hL2 hn1 hn2 inl.nd fun s hs => ?_
            rcases (inl.iff s).mp hs with z | z
            · exact z.1
            · exact ((lv s).mp (List.mem_of_mem_take z)).1
          have r7 := r6.go e7
          have hst7 := ex_t e7 hst
          refine q_dputLD (k := keyS sg) (eld_call (ea3 (ev_var rfl) (ev_var rfl) (ev_var rfl)) (spd_ch (sq_of r7.sq) hst7 hok (by rw [sumsL_len]; have := hw.n2; omega) (by omega))) (ev_var rfl) (ev_var rfl) r7.da hst7 (by omega) fun cl vs H8 H9 hcl e8 hcv hcd hd9 hk9 => ?_
          rw [putK_new _ hvn] at hd9
          obtain ⟨φ, hφ⟩ := (r7.da.ext e8).isX
          have hclp : cl ≠ p := fun z => by rw [z, e7 _ _ hp6] at hcl; cases hcl
          have nd : ∀ {a : Addr} {ys : List V}, H8 a = some (.lst ys) → H9 a = some (.lst ys) := fun {a ys} h => by
            rw [hk9 a fun z => by rw [z, hφ] at h; cases h]
            exact h
          have kt : ∀ b ys, SqT K H8 b ys → SqT K H9 b ys := fun b ys => sqt_but hφ hk9
          have hp8 := e8 _ _ (e7 _ _ hp6)
          have hfl : fv.length = Fw.length := by rw [DpAll.len hfd, List.length_map]
          have hcd9 := DpAll.keepT kt _ _ (chsD_noList _) hcd
          obtain ⟨ns, hn1', hn2', hns⟩ := chs_split hcd9
          have hgl := go_list (cs := chS (sumsL ws) L sg) (ns := ns) (fun i c hc => by
            obtain ⟨t, n, _, h2, _, h4⟩ := hns i c hc
            exact ⟨n, h2, h4⟩) _ (Nat.le_refl _)
          rw [List.take_length] at hgl
          have hgv : (given vs.length (isGo (chS (sumsL ws) L sg)) fun j => ns.getD j .non).length ≤ 20 := by
            rw [hn2', DpAll.len hgl, List.length_map]
            exact nexts_len (by omega)
          have hvp : valV (kvs ++ [(keyS sg, V.ref cl)]) (keyS sg) = some (.ref cl) := by rw [valV_snoc _ _ _ _ hvn, if_pos rfl]
          have hcl16 := ch_len (sums := sumsL ws) (L := L) (d := sg.1) (m := sg.2.1) (k := sg.2.2) (by omega)
          have hcof : ∀ (i : Nat) (x : V), vs[i]? = some x → ∃ (c : Cho) (t : Addr) (n : V), (chS (sumsL ws) L sg)[i]? = some c ∧ x = .ref t ∧ ns[i]? = some n ∧ SqT K H9 t [.int c.1, .int c.2.1, n] ∧ Dp K H9 n (nxD c.2.2) := fun i x hx => by
            have hi : i < (chS (sumsL ws) L sg).length := by rw [← hn2']; exact (List.getElem?_eq_some_iff.mp hx).1
            have hc := List.getElem?_eq_getElem hi
            obtain ⟨t, n, g1, g2, g3, g4⟩ := hns i _ hc
            rw [hx] at g1
            exact ⟨_, t, n, hc, Option.some.inj g1, g2, g3, g4⟩
          refine s_extL (nd hp8) (ev_var rfl) (el_lcL (xs := vs) (isGo (chS (sumsL ws) L sg)) (fun j => ns.getD j .non) (ev_dgx (ev_var rfl) (ev_var rfl) hd9 (k := keyS sg) (kt _ _ (ex_t e8 hst7)) hvp) (sq_of (nd hcv)) (by rw [hn2']; unfold chS; omega) (fun x => rfl)
            (fun i x H1 e1 hx => ?_) (fun i x H1 e1 hx hf => ?_)) (by
              have h1 := inl.len
              rw [hfl]
              rw [Paired.length r6.rc] at hkl
              omega) fun pq H10 hpq e10 h10 => ?_
          · obtain ⟨c, t, n, hc, rfl, hn, hst9, hdn⟩ := hcof i x hx
            refine et_is (et_test (ev_notN (ev_op (ev_var rfl) ev_c (rv_ixT (ex_t e1 hst9) rfl)) ev_c)) ?_
            rw [nx_is hdn]
            unfold isGo
            rw [hc]
            show (!c.2.2.isNone) = c.2.2.isSome
            cases c.2.2 <;> rfl
          · obtain ⟨c, t, n, hc, rfl, hn, hst9, hdn⟩ := hcof i x hx
            refine ev_is (ev_op (ev_var rfl) ev_c (rv_ixT (ex_t e1 hst9) rfl)) ?_
            rw [List.getD_eq_getElem?_getD, hn]
            rfl
          · have hp10 := e10 _ _ (nd hp8)
            have hnp' : ∀ kv ∈ kvs ++ [(keyS sg, V.ref cl)], kv.2 ≠ .ref p := fun kv hk => by
              rcases List.mem_append.mp hk with z | z
              · exact hnp kv z
              · rw [List.mem_singleton.mp z]
                intro z2
                injection z2 with z2
                exact hclp z2
            have sl : ∀ xs : List Stg, noListAll (xs.map stD) = true := noListAll_map stD_noList
            refine ⟨kvs ++ [(keyS sg, .ref cl)], ss ++ [sg], Fw ++ nexts (sumsL ws) L sg, _, _, c, rfl,
              ⟨Ex.mut ((ex_but (r7.ex.trans e8) hd0 hk9).trans e10) hp0, by rw [upd_ne hlp]; exact e10 _ _ (nd (e8 _ _ r7.sq)), (hd9.ext e10).put hp10, rch_put hp10 hnp' (rch_ext e10 (Paired.snoc (rch_but hφ hk9 (rch_ext e8 r7.rc)) ⟨rfl, cl, vs, rfl, nd hcv, hcd9⟩))⟩,
              by rw [upd_ne hwp]; exact e10 _ _ (nd (e8 _ _ (e7 _ _ hwa6))), DpAll.put hp10 _ _ (sl _) (DpAll.ext e10 _ _ (DpAll.keepT kt _ _ (sl _) (DpAll.ext (e7.trans e8) _ _ hwd6))), upd_same, ?_, inl.new lv hsg hnm (nexts_len (by omega)), hnp'⟩
            rw [List.map_append]
            refine dp_appAll (DpAll.put hp10 _ _ (sl _) (DpAll.ext e10 _ _ (DpAll.keepT kt _ _ (sl _) (DpAll.ext (e7.trans e8) _ _ hfd)))) (DpAll.put hp10 _ _ (sl _) (DpAll.ext e10 _ _ ?_))
            rw [hn2']
            exact hgl
        · rw [hmem] at hb
          have hm : sg ∈ ss := by simpa using hb
          exact ⟨kvs, ss, Fw, fv, _, c, rfl, r6.go e7, e7 _ _ hwa6, DpAll.ext e7 _ _ hwd6, e7 _ _ hp6, DpAll.ext e7 _ _ hfd, inl.old lv hsg hm, hnp⟩
      · rintro σ H6 ⟨kvs, ss, Fw, fv, b, c, rfl, r6, hwa6, hwd6, hp6, hfd, inl, hnp⟩
        rw [hWl] at inl
        obtain ⟨lv2, inl2⟩ := inl.done hL1 hn1 lv
        exact s_asg (ev_var rfl) fun H7 e7 => ⟨p, fv, Fw, kvs, ss, _, _, _, rfl, r6.go e7, e7 _ _ hp6, DpAll.ext e7 _ _ hfd, lv2, inl2 _⟩
    · have hWn : W = [] := by
        have h2 : wv.length = W.length := by rw [DpAll.len hwd, List.length_map]
        have : wv = [] := by simpa using hb
        rw [this] at h2
        exact List.eq_nil_of_length_eq_zero h2.symm
      subst hWn
      have r4 := rw.go e4
      exact s_ret (ev_var rfl) fun H5 e5 => q d kvs ss H5 hd0 (r4.ex.trans e5) (r4.da.ext e5) (rch_ext e5 r4.rc) (rs_of hL1 hn1 lv inl)
end
end K16L
set_option Elab.async false
set_option linter.all false
set_option maxRecDepth 100000
set_option maxHeartbeats 4000000
namespace K16L
open PySem PySem.Spec PyProof.Rows L2 GX KC Evl M03 M04
def ovI : Option Int → L2.V
  | none => .non
  | some v => .int v
theorem ovI_none (o : Option Int) : decide (ovI o = .non) = o.isNone := by cases o <;> rfl
theorem ovI_inB (o : Option Int) : inB (ovI o) = true := by cases o <;> rfl
theorem fold_some (l : List (Option Int)) : ∀ b : Int, l.foldl oadd (some b) = some ((l.filterMap id).foldl min b) := by
  induction l with
  | nil => intro b; rfl
  | cons x l ih =>
    intro b
    cases x with
    | none => exact ih b
    | some p =>
      show l.foldl oadd (oadd (some b) (some p)) = _
      have e : oadd (some b) (some p) = some (min b p) := by
        unfold oadd
        show (if p < b then some p else some b) = _
        by_cases z : p < b
        · rw [if_pos z, show min b p = p by omega]
        · rw [if_neg z, show min b p = b by omega]
      rw [e, ih]
      rfl
theorem minO_is : ∀ l : List (Option Int), minO (l.filterMap id) = ovI (omin l)
  | [] => rfl
  | none :: l => minO_is l
  | some p :: l => by
    show L2.V.int ((l.filterMap id).foldl min p) = ovI ((l.foldl oadd (some p)))
    rw [fold_some]
    rfl
theorem given_opt (l : List (Option Int)) : ∀ i, i ≤ l.length → given i (fun i => (l.getD i none).isSome) (fun i => ovI (l.getD i none)) = ((l.take i).filterMap id).map L2.V.int
  | 0, _ => rfl
  | i + 1, h => by
    have ih := given_opt l i (by omega)
    have hi : i < l.length := by omega
    have hc : l[i]? = some l[i] := List.getElem?_eq_getElem hi
    have hd : l.getD i none = l[i] := by rw [List.getD_eq_getElem?_getD, hc]; rfl
    generalize l[i] = x at hc hd
    rw [fm_take _ _ hc]
    cases x with
    | none =>
      rw [given_no (by simp only [hd]; rfl), ih]
      simp
    | some p =>
      rw [given_yes (by simp only [hd]; rfl), ih, List.map_append]
      simp only [hd]
      rfl
/-! ### the values as a dict -/
def entV (sums : List Int) (L : Int) (s : Stg) : List Key × L2.V := (keyS s, ovI (M04.V sums L s))
theorem ent_get {sums : List Int} {L : Int} {s : Stg} : ∀ {l : List Stg}, s ∈ l → valV (l.map (entV sums L)) (keyS s) = some (ovI (M04.V sums L s))
  | x :: l, h => by
    rw [List.map_cons]
    by_cases e : s = x
    · subst e
      exact valV_pos rfl
    · rw [valV_neg (fun q => e (keyS_inj q).symm)]
      exact ent_get (by
        rcases List.mem_cons.mp h with q | q
        · exact absurd q e
        · exact q)
theorem ent_none {sums : List Int} {L : Int} {s : Stg} : ∀ {l : List Stg}, s ∉ l → valV (l.map (entV sums L)) (keyS s) = none
  | [], _ => rfl
  | x :: l, h => by
    rw [List.map_cons, valV_neg (fun q => h (by rw [keyS_inj q]; simp))]
    exact ent_none fun z => h (by simp [z])
section
variable {P : Program} {w : World} {K : PySem.W.Frag} {mg : Str → Option Value} {base : Heap}
def spLsum (P : Program) (w : World) (K : PySem.W.Frag) : Sp := fun vs H Q _ => ∃ (x : L2.V) (d : Addr) (c : Cho) (kvs : List (List Key × L2.V)) (g : Stg → Option Int), vs = [x, .ref d] ∧ Dp K H x (chD c) ∧ DAt P w K H d kvs ∧ (∀ s, c.2.2 = some s → valV kvs (keyS s) = some (ovI (g s))) ∧ RetV (ovI (lsum g c)) H Q
theorem ok_least_sum {f : Addr} {fd : FuncData} {k : Nat} (F : Fun K "least_sum" "least_sum" s_least_sum f fd) (B : Bs mg) : FnOk P w K mg base CX0 (k + 1) f fd ["choice", "known"] (spLsum P w K) := by
  refine F.ok sc_least_sum (fun vs H Q E h => ?_) (fun cdv A outer s H vs Q E hr h => ?_)
  · obtain ⟨x, d, c, kvs, g, rfl, _⟩ := h
    rfl
  · obtain ⟨x, d, c, kvs, g, rfl, hx, hd, hv, q⟩ := h
    have hu := lt64 hr.units
    refine ⟨_, (pss_cons (ps_asg (pv 0) (pg_tup rfl (pgs_cons (pg_name (i := 2) sc_least_sum.nd rfl (Or.inl rfl)) (pgs_cons (pg_name (i := 3) sc_least_sum.nd rfl (Or.inl rfl)) (pgs_cons (pg_name (i := 4) sc_least_sum.nd rfl (Or.inl rfl)) pgs_nil)))))
      (pss_cons (ps_if (pt_cmpR op_isN (pv 4) pe_non (nomark _)) (pss_one (ps_ret (pv 3))) pss_nil)
      (pss_cons (ps_if (pt_cmpR op_isN (pe_dgx (P := P) (w := w) (K := K) ⟨rfl, rfl, rfl⟩ hu (pv 1) (pv 4) (fun _ _ => rfl)) pe_non (nomark _)) (pss_one (ps_ret pe_non)) pss_nil)
      (pss_one (ps_ret (pe_op op_add (pv 3) (pe_dgx (P := P) (w := w) (K := K) ⟨rfl, rfl, rfl⟩ hu (pv 1) (pv 4) (fun _ _ => rfl)))))))), ?_⟩
    obtain ⟨t, n, rfl, hst, hn⟩ := ch_at hx
    refine q_unp (ev_var rfl) hst rfl fun H1 e1 => ⟨_, _, rfl, _, _, rfl, _, _, rfl, rfl, ?_⟩
    have hnx := nx_is hn
    refine q_when (et_test (ev_isN (ev_var rfl) ev_c)) (fun hb H2 e2 => ?_) (fun hb H2 e2 => ?_)
    · rw [hnx] at hb
      have e : c.2.2 = none := by simpa using hb
      refine s_ret (ev_var rfl) fun H3 e3 => ?_
      have := q H3 ((e1.trans e2).trans e3)
      unfold lsum at this
      rw [e] at this
      exact this
    · rw [hnx] at hb
      obtain ⟨s', e⟩ : ∃ s', c.2.2 = some s' := by
        cases e : c.2.2 with
        | none => rw [e] at hb; simp at hb
        | some s' => exact ⟨s', rfl⟩
      obtain ⟨t2, rfl, hst2⟩ := nx_some hn e
      have hls : lsum g c = (g s').map (c.2.1 + ·) := by unfold lsum; rw [e]
      rw [hls] at q
      have gv := hv s' e
      refine q_when (et_test (ev_isN (ev_dgx (ev_var rfl) (ev_var rfl) (hd.ext (e1.trans e2)) (k := keyS s') (ex_t (e1.trans e2) hst2) gv) ev_c)) (fun hb H3 e3 => ?_) (fun hb H3 e3 => ?_)
      · rw [ovI_none] at hb
        have eg : g s' = none := by simpa using hb
        rw [eg] at q
        exact s_ret ev_c fun H4 e4 => q H4 (((e1.trans e2).trans e3).trans e4)
      · rw [ovI_none] at hb
        obtain ⟨y, eg⟩ : ∃ y, g s' = some y := by
          cases e : g s' with
          | none => rw [e] at hb; simp at hb
          | some y => exact ⟨y, rfl⟩
        rw [eg] at q gv
        exact s_ret (ev_add (ev_var rfl) (ev_dgx (ev_var rfl) (ev_var rfl) (hd.ext ((e1.trans e2).trans e3)) (k := keyS s') (ex_t ((e1.trans e2).trans e3) hst2) gv)) fun H4 e4 => q H4 (((e1.trans e2).trans e3).trans e4)
theorem spv_lsum {H : Hp} {x : L2.V} {d : Addr} {c : Cho} {kvs : List (List Key × L2.V)} {g : Stg → Option Int} (hx : Dp K H x (chD c)) (hd : DAt P w K H d kvs) (hv : ∀ s, c.2.2 = some s → valV kvs (keyS s) = some (ovI (g s))) : SpV (spLsum P w K) ([x, .ref d] ++ []) H (ovI (lsum g c)) := fun H1 e1 Q q E =>
  ⟨x, d, c, kvs, g, rfl, Dp.ext e1 _ _ hx, hd.ext e1, hv, q⟩
/-- stages given with their choices -/
structure SIn (P : Program) (w : World) (K : PySem.W.Frag) (sums : List Int) (L : Int) (d : Addr) (H : Hp) (kvs : List (List Key × L2.V)) (ss : List Stg) : Prop where
  da : DAt P w K H d kvs
  rc : RCh K sums L H kvs ss
  rs : RS sums L ss
  l1 : 1 ≤ L
  l2 : L ≤ 16
  n1 : 1 ≤ nN sums
  n2 : nN sums ≤ 16
def spVals (P : Program) (w : World) (K : PySem.W.Frag) : Sp := fun vs H Q _ => ∃ (d : Addr) (sums : List Int) (L : Int) (kvs : List (List Key × L2.V)) (ss : List Stg), vs = [.ref d] ∧ SIn P w K sums L d H kvs ss ∧
  ∀ d2 H2, H d2 = none → Ex H H2 → DAt P w K H2 d2 (ss.reverse.map (entV sums L)) → Q (.ref d2) H2
theorem keys_of {sums : List Int} {L : Int} {H : Hp} {kvs : List (List Key × L2.V)} {ss : List Stg} {bs : List Addr} (h1 : IsKeysX K H kvs bs) (h2 : RCh K sums L H kvs ss) : bs.length = ss.length ∧ ∀ (i : Nat) (b : Addr), bs[i]? = some b → ∃ s, ss[i]? = some s ∧ SqT K H b (stV s) := by
  unfold IsKeysX at h1
  induction h2 generalizing bs with
  | nil => cases h1; exact ⟨rfl, fun i b z => by simp at z⟩
  | @cons kv s kvs ss z t ih =>
    cases h1 with
    | cons a r =>
      obtain ⟨g1, g2⟩ := ih r
      refine ⟨by simp [g1], fun i b hb => ?_⟩
      cases i with
      | zero =>
        have := Option.some.inj (show some _ = some b from hb)
        subst this
        rw [z.key] at a
        exact ⟨s, rfl, a⟩
      | succ i => simpa using g2 i b (by simpa using hb)
theorem ok_stage_values {f : Addr} {fd : FuncData} {k : Nat} (F : Fun K "stage_values" "stage_values" s_stage_values f fd) (B : Bs mg) (C_least_sum : Cal P w K mg base "least_sum" 1 ["choice", "known"] (spLsum P w K)) :
    FnOk P w K mg base CX0 (k + 2) f fd ["stages"] (spVals P w K) := by
  refine F.ok sc_stage_values (fun vs H Q E h => ?_) (fun cdv A outer s H vs Q E hr h => ?_)
  · obtain ⟨d, sums, L, kvs, ss, rfl, _⟩ := h
    rfl
  · obtain ⟨d, sums, L, kvs, ss, rfl, hin, q⟩ := h
    have hu64 := hr.units
    have hu := lt64 hr.units
    refine ⟨_, (pss_cons (ps_set (i := 1) sc_stage_values.nd rfl (Or.inr rfl) (pe_dnewX (P := P) (w := w) (K := K) ⟨rfl, rfl, rfl⟩))
      (pss_cons (ps_for PassesOwn.never rfl (pi_reversed (by rfl) B.reversed (pa_cons (pe_callTy (call_list_dX rfl) (by rfl) B.list (by decide +kernel) (pa_cons (pv 0) pa_nil)) pa_nil)) (pg_name (i := 2) sc_stage_values.nd rfl (Or.inl rfl)) (pss_cons (ps_setLc (i := 3) rfl sc_stage_values.nd rfl rfl (sw_true rfl rfl rfl (by decide +kernel)) (pi_list (pe_dgx (P := P) (w := w) (K := K) ⟨rfl, rfl, rfl⟩ hu (pv 0) (pv 2) (fun _ _ => rfl))) (blkOk_by (own := [("choice", 4)]) (N := ["stages", "known", "stage", "sums", "choice", "total"]) (sc := defScope s_stage_values) (by decide +kernel)) (fun _ _ _ _ _ => (pg_name (i := 4) sc_stage_values.nd rfl (Or.inl rfl))) (fun _ _ _ _ _ => pts_nil) (fun _ _ _ _ _ => (pe_callC C_least_sum (hr.mono (by omega)) (by rfl) (pa_cons (pv 4) (pa_cons (pv 1) pa_nil)))))
      (pss_one (ps_dputX (P := P) (w := w) (K := K) ⟨rfl, rfl, rfl⟩ hu (pv 1) (pv 2) (pe_callBK (cr_minN rfl hu64) (by rfl) B.min (by decide +kernel) (pa_cons (pe_lc rfl sc_stage_values.nd (pi_list (pv 3)) (blkOk_by (own := [("total", 5)]) (N := ["stages", "known", "stage", "sums", "choice", "total"]) (sc := defScope s_stage_values) (by decide +kernel)) (fun _ _ _ _ _ => (pg_name (i := 5) sc_stage_values.nd rfl (Or.inl rfl))) (fun _ _ _ _ _ => (pts_one (pt_cmpR op_notN (pv 5) pe_non (nomark _)))) (fun _ _ _ _ _ => (pv 5))) pa_nil) (pk_cons pe_non pk_nil)) rfl))))
      (pss_one (ps_ret (pv 1))))), ?_⟩
    obtain ⟨hda, hrc, hrs, hL1, hL2, hn1, hn2⟩ := hin
    have hkl := Paired.length hrc
    have hfew : ss.length ≤ 4913 := few hL1 hL2 hn1 hn2 hrs.nd fun s hs => (hrs.iff s).mp hs
    refine q_dnew (K := K) fun d2 H1 hd2 e1 hd1 => ?_
    refine q_forRevX (C := fun xs => ∃ bs, xs = bs.map L2.V.ref ∧ IsKeysX K H1 kvs bs)
      (fun Q q => ⟨_, rfl, d, kvs, rfl, hda.ext e1, fun p bs hp hb => q p _ _ hp (Ex.new hp) upd_same ⟨bs, rfl, hb⟩⟩)
      (fun xs p i σ H' => ∃ a b : Option L2.V, σ = [some (.ref d), some (.ref d2), a, b, none, none] ∧ Ex H H' ∧ (∀ b ys, SqT K H1 b ys → SqT K H' b ys) ∧ H' p = some (.lst xs) ∧ DAt P w K H' d2 ((ss.reverse.take i).map (entV sums L)))
      (fun xs p H2 hp e2 h2 hc => ⟨none, none, rfl, e1.trans e2, fun b ys => ex_t e2, h2, hd1.ext e2⟩)
      (fun xs p i σ H' _ hP => by
        obtain ⟨_, _, _, _, _, z, _⟩ := hP
        exact sq_of z) ?_ ?_
    · rintro xs p i x σ H2 ⟨bs, rfl, hbs⟩ hx hi ⟨a, b, rfl, e2, hk2, hp2, hd⟩
      obtain ⟨hbl, hbk⟩ := keys_of hbs (rch_ext e1 hrc)
      rw [List.length_map, hbl] at hx hi
      obtain ⟨b', hb', rfl⟩ : ∃ b', bs[ss.length - 1 - i]? = some b' ∧ L2.V.ref b' = x := by
        rw [List.getElem?_map] at hx
        cases e : bs[ss.length - 1 - i]? with
        | none => rw [e] at hx; cases hx
        | some b' => rw [e] at hx; exact ⟨b', rfl, Option.some.inj hx⟩
      obtain ⟨sg, hsg, hst1⟩ := hbk _ _ hb'
      have hst := hk2 _ _ hst1
      have hsm := List.mem_of_getElem? hsg
      have hreach := (hrs.iff sg).mp hsm
      obtain ⟨hok, hk16⟩ := hreach.ok hL1 hn1
      obtain ⟨cl, vs, hv, hcl, hcd⟩ := rch_val (rch_ext e2 hrc) hsm
      have hrev : ss.reverse[i]? = some sg := by
        rw [List.getElem?_reverse hi]
        exact hsg
      have htk : ss.reverse.take (i + 1) = ss.reverse.take i ++ [sg] := by rw [List.take_succ, hrev]; rfl
      have hrn : ss.reverse.Nodup := (List.reverse_perm ss).nodup_iff.mpr hrs.nd
      have hsn : sg ∉ ss.reverse.take i := fun z => by
        have h2 : (ss.reverse.take (i + 1)).Nodup := hrn.sublist (List.take_sublist _ _)
        rw [htk, List.nodup_append] at h2
        exact h2.2.2 sg z sg (by simp) rfl
      have hsplit : ss = ss.take (ss.length - 1 - i) ++ sg :: ss.drop (ss.length - 1 - i + 1) := by
        have hlt : ss.length - 1 - i < ss.length := by omega
        have h2 : ss[ss.length - 1 - i] = sg := by
          rw [List.getElem?_eq_getElem hlt] at hsg
          exact Option.some.inj hsg
        rw [← h2, ← List.drop_eq_getElem_cons hlt, List.take_append_drop]
      have hbeh : ∀ c ∈ chS sums L sg, ∀ s', c.2.2 = some s' → valV ((ss.reverse.take i).map (entV sums L)) (keyS s') = some (ovI (M04.V sums L s')) := fun c hc s' ec => by
        refine ent_get ?_
        have := hrs.behind hsplit hL1 hn1 hc ec
        have e : ss.reverse.take i = (ss.drop (ss.length - 1 - i + 1)).reverse := by
          have h3 : (ss.drop (ss.length - 1 - i + 1)).reverse.length = i := by rw [List.length_reverse, List.length_drop]; omega
          conv => lhs; rw [hsplit, List.reverse_append, List.reverse_cons, List.append_assoc]
          rw [List.take_left' h3]
        rw [e]
        exact List.mem_reverse.mpr this
      have hvl : vs.length = (chS sums L sg).length := by
        rw [DpAll.len hcd]
        exact List.length_map _
      have hcl16 := ch_len (sums := sums) (L := L) (d := sg.1) (m := sg.2.1) (k := sg.2.2) (by omega)
      have hcl17 : (chS sums L sg).length ≤ 17 := hcl16
      obtain ⟨ls, hls⟩ : ∃ ls, ls = (chS sums L sg).map (lsum (M04.V sums L)) := ⟨_, rfl⟩
      have hlsl : ls.length = (chS sums L sg).length := by rw [hls, List.length_map]
      refine q_asgL (el_lcL (xs := vs) (fun _ => true) (fun j => ovI (ls.getD j none)) (ev_dgx (ev_var rfl) (ev_var rfl) (hda.ext e2) (k := keyS sg) hst hv) (sq_of hcl) (by omega) (fun x => rfl) (fun j y H3 e3 hy => et_yes) (fun j y H3 e3 hy _ => ?_)) fun p3 H3 hp3 e3 h3 => ?_
      · obtain ⟨dd, hdd, hyd⟩ := dp_get hcd hy
        unfold chsD at hdd
        rw [List.getElem?_map] at hdd
        cases e : (chS sums L sg)[j]? with
        | none => rw [e] at hdd; cases hdd
        | some c =>
          rw [e] at hdd
          have hdd := Option.some.inj hdd
          subst hdd
          refine ev_is (ev_call (ea2 (ev_var rfl) (ev_var rfl)) (spv_lsum (Dp.ext e3 _ _ hyd) (hd.ext e3) (hbeh c (List.mem_of_getElem? e)))) ?_
          rw [hls, List.getD_eq_getElem?_getD, List.getElem?_map, e]
          rfl
      · have hga : given vs.length (fun _ => true) (fun j => ovI (ls.getD j none)) = (List.range vs.length).map fun j => ovI (ls.getD j none) := by
          unfold given
          rw [List.filter_eq_self.mpr fun _ _ => rfl]
        have hgl : ((List.range vs.length).map fun j => ovI (ls.getD j none)).length = vs.length := by rw [List.length_map, List.length_range]
        rw [hga] at h3
        have el : EvL _ _ _ _ := el_lcL (K := K) (σ := [some (.ref d), some (.ref d2), some (.ref b'), some (.ref p3), none, none]) (H := H3) (te := tVar 5) (tl := tVar 3) (j := 5) (vs := [5]) (t := tTest (tOp (fun x y H Q => y = .non ∧ Q (.bl (!decide (x = .non))) H) (tVar 5) (tC .non))) (xs := (List.range vs.length).map fun j => ovI (ls.getD j none)) (fun j => (ls.getD j none).isSome) (fun j => ovI (ls.getD j none)) (ev_var rfl) (sq_of h3) (by rw [hgl]; omega) (fun x => rfl) (fun j y H4 e4 hy => by
            have hj : j < vs.length := by have := (List.getElem?_eq_some_iff.mp hy).1; omega
            rw [List.getElem?_map, List.getElem?_range hj] at hy
            have hy := Option.some.inj hy
            subst hy
            refine et_is (et_test (ev_notN (ev_var rfl) ev_c)) ?_
            rw [ovI_none]
            cases ls.getD j none <;> rfl) (fun j y H4 e4 hy _ => by
            have hj : j < vs.length := by have := (List.getElem?_eq_some_iff.mp hy).1; omega
            rw [List.getElem?_map, List.getElem?_range hj] at hy
            have hy := Option.some.inj hy
            subst hy
            exact ev_var rfl)
        have eg := given_opt ls vs.length (by omega)
        rw [hgl, eg, hvl, ← hlsl, List.take_length] at el
        refine s_dput (k := keyS sg) (ev_minN (l := 0) el fun H4 e4 => ev_c) (ev_var rfl) (ev_var rfl) (hd.ext e3) (ex_t e3 hst) (by rw [List.length_map, List.length_take]; omega) fun H4 H5 e4 hd5 hk5 => ?_
        rw [minO_is, hls, ← V_eq hok, putK_new _ (ent_none hsn)] at hd5
        obtain ⟨φ, hφ⟩ := (hd.ext (e3.trans e4)).isX
        have hpd : p ≠ d2 := fun z => by
          have h1 := (e3.trans e4) _ _ hp2
          rw [z, hφ] at h1
          cases h1
        refine ⟨_, _, rfl, ex_but (e2.trans (e3.trans e4)) hd2 hk5, fun b ys hb => sqt_but hφ hk5 (ex_t (e3.trans e4) (hk2 _ _ hb)), by rw [hk5 p hpd]; exact (e3.trans e4) _ _ hp2, ?_⟩
        rw [htk, List.map_append]
        exact hd5
    · rintro xs p σ H2 ⟨bs, rfl, hbs⟩ ⟨a, b, rfl, e2, hk2, hp2, hd⟩
      have hl := (keys_of hbs (rch_ext e1 hrc)).1
      rw [List.length_map, hl, ← List.length_reverse, List.take_length] at hd
      exact s_ret (ev_var rfl) fun H3 e3 => q d2 H3 hd2 (e2.trans e3) (hd.ext e3)
end
end K16L
set_option linter.all false
/-! One step of the rule. -/
namespace M04
open M03
structure AtS (ws : List Int) (L : Nat) (s : Stg) (acc : List Int) : Prop where
  re : Reach (sumsL ws) L s
  va : ∃ v, V (sumsL ws) L s = some v
  eq : scat (rankL ws) s.1.toNat s.2.1.toNat (due (sumsL ws) L (L + 1 - s.1.toNat) s) acc = lensW ws L
theorem nN_sums (ws : List Int) : nN (sumsL ws) = ws.length := by
  unfold nN; rw [sumsL_len]; push_cast; omega
theorem AtS.first {ws : List Int} {L : Nat} {v : Int} (hv : V (sumsL ws) L (0, 0, 1) = some v) : AtS ws L (0, 0, 1) (List.replicate ws.length 0) := ⟨.first, ⟨v, hv⟩, rfl⟩
theorem AtS.step {ws : List Int} {L : Nat} {s : Stg} {acc : List Int} (hL : 1 ≤ L) (hn : 1 ≤ ws.length) (h : AtS ws L s acc) : ∃ c, pick (sumsL ws) L s = some c ∧ c ∈ chS (sumsL ws) L s ∧ 0 ≤ c.1 ∧ 0 ≤ s.1 ∧ s.1 ≤ L ∧ 0 ≤ s.2.1 ∧ s.2.1 + c.1 ≤ ws.length ∧
    (c.2.2 = none → wr acc s.1.toNat (((rankL ws).drop s.2.1.toNat).take c.1.toNat) = lensW ws L) ∧ ∀ s', c.2.2 = some s' → s'.1 = s.1 + 1 ∧ AtS ws L s' (wr acc s.1.toNat (((rankL ws).drop s.2.1.toNat).take c.1.toNat)) := by
  obtain ⟨re, ⟨v, hv⟩, eq⟩ := h
  have hnn : 1 ≤ nN (sumsL ws) := by rw [nN_sums]; omega
  obtain ⟨ok, _⟩ := re.ok (by omega) hnn
  have hd := ok.d
  have hm := ok.m
  obtain ⟨c, hp, hc, hs⟩ := pick_some ok hv
  have hic := (ch_mem ok).mp hc
  obtain ⟨t, ht⟩ : ∃ t, L + 1 - s.1.toNat = t + 1 := ⟨L - s.1.toNat, by omega⟩
  rw [ht, due, hp] at eq
  simp only at eq
  refine ⟨c, hp, hc, ?_⟩
  have hb : 0 ≤ c.1 ∧ s.2.1 + c.1 ≤ ws.length ∧ ∀ s', c.2.2 = some s' → s'.1 = s.1 + 1 ∧ s'.2.1 = s.2.1 + c.1 := by
    have e := nN_sums ws
    cases hic with
    | stop h0 h1 h2 h3 => exact ⟨h0, (show s.2.1 + _ ≤ (ws.length : Int) by omega), fun s' z => by cases z⟩
    | go h0 h1 h2 h3 h4 => exact ⟨h0, (show s.2.1 + _ ≤ (ws.length : Int) by omega), fun s' z => by
        have z := Option.some.inj z
        subst z
        exact ⟨rfl, rfl⟩⟩
  refine ⟨hb.1, hd.1, by omega, hm.1, hb.2.1, fun e => ?_, fun s' e => ?_⟩
  · rw [e] at eq
    exact eq
  · rw [e] at eq
    obtain ⟨h1, h2⟩ := hb.2.2 s' e
    refine ⟨h1, .next re hc e, ?_, ?_⟩
    · unfold lsum at hs
      rw [e] at hs
      cases hv2 : V (sumsL ws) L s' with
      | none =>
        have hs : Option.map (fun x => c.2.1 + x) (V (sumsL ws) L s') = some v := hs
        rw [hv2] at hs
        simp at hs
      | some y => exact ⟨y, rfl⟩
    · have e1 : s'.1.toNat = s.1.toNat + 1 := by omega
      have e2 : s'.2.1.toNat = s.2.1.toNat + c.1.toNat := by omega
      have e3 : L + 1 - (s.1.toNat + 1) = t := by omega
      rw [e1, e2, e3]
      exact eq
theorem wr_len (d : Nat) : ∀ (xs : List Nat) (acc : List Int), (wr acc d xs).length = acc.length
  | [], acc => rfl
  | x :: xs, acc => by
    show (wr (acc.set x d) d xs).length = _
    rw [wr_len d xs, List.length_set]
theorem wr_snoc (acc : List Int) (d : Nat) (xs : List Nat) (x : Nat) : wr acc d (xs ++ [x]) = (wr acc d xs).set x d := by
  unfold wr
  rw [List.foldl_append]
  rfl
end M04
set_option Elab.async false
set_option linter.all false
set_option maxRecDepth 100000
set_option maxHeartbeats 4000000
namespace K16L
open PySem PySem.Spec PyProof.Rows L2 GX KC Evl M03 M04
theorem flatr (n : Nat) (v : L2.V) : (List.replicate n [v]).flatten = List.replicate n v := by
  induction n with
  | zero => rfl
  | succ n ih => rw [List.replicate_succ, List.flatten_cons, ih]; rfl
theorem cut_mid (xs : List L2.V) {a b : Nat} (h1 : a ≤ b) (h2 : b ≤ xs.length) : cutV xs (some (a : Int)) (some (b : Int)) = (xs.drop a).take (b - a) := by
  unfold cutV
  have e1 : min a xs.length = a := by omega
  have e2 : min b xs.length = b := by omega
  rw [HT.sIx_nat, HT.sIx_nat, e1, e2]
theorem scal_ovI (a b : Option Int) : scal (ovI a) (ovI b) = true := by cases a <;> cases b <;> rfl
theorem dec_ovI (a b : Option Int) : decide (ovI a = ovI b) = decide (a = b) := by
  cases a <;> cases b <;> simp [ovI]
section
variable {P : Program} {w : World} {K : PySem.W.Frag} {mg : Str → Option Value} {base : Heap}
theorem ep_call {σ : L2.St} {H : Hp} {sp : Sp} {dvs vs : List L2.V} {E : XK} {ta : TA} {R : L2.V → Hp → Prop} (h : EvA ta σ H vs) (hs : ∀ H1, Ex H H1 → ∀ Q : VK, (∀ v H2, Ex H1 H2 → R v H2 → Q v H2) → sp (vs ++ dvs) H1 Q E) : EvP (tCall sp dvs E ta) σ H R := fun H1 e Q q =>
  h H1 e _ fun H2 e2 => hs H2 (e.trans e2) Q fun v H3 e3 r => q v H3 (e2.trans e3) r
theorem ep_reach {σ : L2.St} {H : Hp} {l : Addr} {ws : List Int} {L : Nat} {E : XK} {ta : TA} (hw : WIn K ws L l H) (h : EvA ta σ H [.ref l, .int (L : Int)]) : EvP (tCall (spReach P w K) [] E ta) σ H (fun v H2 => ∃ d kvs ss, v = .ref d ∧ H d = none ∧ DAt P w K H2 d kvs ∧ RCh K (sumsL ws) L H2 kvs ss ∧ RS (sumsL ws) L ss) :=
  ep_call h fun H1 e1 Q q => ⟨l, ws, L, rfl, hw.ext e1, fun d kvs ss H2 hd e2 h1 h2 h3 => q _ H2 e2 ⟨d, kvs, ss, rfl, fresh_back e1 hd, h1, h2, h3⟩⟩
theorem sin_of {H : Hp} {l d : Addr} {ws : List Int} {L : Nat} {kvs : List (List Key × L2.V)} {ss : List Stg} (hw : WIn K ws L l H) (h1 : DAt P w K H d kvs) (h2 : RCh K (sumsL ws) L H kvs ss) (h3 : RS (sumsL ws) L ss) : SIn P w K (sumsL ws) L d H kvs ss := by
  have a := hw.n1
  have b := hw.n2
  have c := hw.l1
  have e := hw.l2
  exact ⟨h1, h2, h3, by omega, by omega, by rw [nN_sums]; omega, by rw [nN_sums]; omega⟩
theorem ep_vals {σ : L2.St} {H : Hp} {d : Addr} {sums : List Int} {L : Int} {E : XK} {ta : TA} {kvs : List (List Key × L2.V)} {ss : List Stg} (hs : SIn P w K sums L d H kvs ss) (h : EvA ta σ H [.ref d]) : EvP (tCall (spVals P w K) [] E ta) σ H (fun v H2 => ∃ d2, v = .ref d2 ∧ H d2 = none ∧ DAt P w K H2 d2 (ss.reverse.map (entV sums L))) :=
  ep_call h fun H1 e1 Q q => ⟨d, sums, L, kvs, ss, rfl, ⟨hs.da.ext e1, rch_ext e1 hs.rc, hs.rs, hs.l1, hs.l2, hs.n1, hs.n2⟩, fun d2 H2 hd e2 h1 => q _ H2 e2 ⟨d2, rfl, fresh_back e1 hd, h1⟩⟩
/-! ### what fits, kept -/
theorem keep_list {H : Hp} {vs : List L2.V} {cs : List Cho} (p : Cho → Bool) (hd : DpAll K H vs (chsD cs)) : ∀ i, i ≤ cs.length → DpAll K H (given i (fun j => match cs[j]? with | some c => p c | none => false) fun j => vs.getD j .non) (chsD ((cs.take i).filter p))
  | 0, _ => .nil
  | i + 1, h => by
    have ih := keep_list p hd i (by omega)
    have hi : i < cs.length := by omega
    have hc : cs[i]? = some cs[i] := List.getElem?_eq_getElem hi
    generalize cs[i] = c at hc
    have hvl : vs.length = cs.length := by rw [DpAll.len hd]; exact List.length_map _
    have hv : vs[i]? = some (vs.getD i .non) := by
      rw [List.getD_eq_getElem?_getD, List.getElem?_eq_getElem (by omega)]
      rfl
    obtain ⟨dd, h1, h2⟩ := dp_get hd hv
    unfold chsD at h1
    rw [List.getElem?_map, hc] at h1
    have h1 := Option.some.inj h1
    subst h1
    rw [List.take_succ, hc]
    cases e : p c with
    | true =>
      rw [given_yes (by simp only [hc]; exact e), List.filter_append]
      unfold chsD
      rw [List.map_append]
      refine dp_appAll ih ?_
      show DpAll K H _ (([c].filter p).map chD)
      rw [List.filter_cons, if_pos e]
      exact .cons h2 .nil
    | false =>
      rw [given_no (by simp only [hc]; exact e), List.filter_append]
      have e2 : ([c].filter p) = [] := by rw [List.filter_cons, if_neg (by rw [e]; exact Bool.false_ne_true)]; rfl
      show DpAll K H _ (chsD ((cs.take i).filter p ++ [c].filter p))
      rw [e2, List.append_nil]
      exact ih
theorem dp_last {H : Hp} {ys : List L2.V} {cs : List Cho} {c : Cho} (h : DpAll K H ys (chsD cs)) (hc : cs.getLast? = some c) : ∃ y, atI ys (-1) = some y ∧ Dp K H y (chD c) := by
  have hne : cs ≠ [] := fun z => by rw [z] at hc; cases hc
  have hl : ys.length = cs.length := by rw [DpAll.len h]; exact List.length_map _
  have hpos := List.length_pos_iff.mpr hne
  have hyne : ys ≠ [] := fun z => by rw [z] at hl; simp at hl; omega
  have hget : ys[ys.length - 1]? = some (ys.getLast hyne) := by rw [List.getLast_eq_getElem, List.getElem?_eq_getElem]
  obtain ⟨dd, h1, h2⟩ := dp_get h hget
  have h3 : cs[cs.length - 1]? = some c := by rw [← List.getLast?_eq_getElem?]; exact hc
  unfold chsD at h1
  rw [List.getElem?_map, hl, h3] at h1
  have h1 := Option.some.inj h1
  subst h1
  refine ⟨_, ?_, h2⟩
  have e : ys = ys.dropLast ++ [ys.getLast hyne] := (List.dropLast_concat_getLast hyne).symm
  conv => lhs; rw [e]
  exact atI_last _ _
def spLL (P : Program) (w : World) (K : PySem.W.Frag) (Pt : Addr) : Sp := fun vs H Q _ => ∃ (l : Addr) (ws : List Int) (L : Nat), vs = [.ref l, .int (L : Int)] ∧ WIn K ws L l H ∧ (∃ v, M04.V (sumsL ws) L (0, 0, 1) = some v) ∧ H Pt = some (TabX Pt) ∧ RetL ((lensW ws L).map L2.V.int) H Q
theorem ok_least_lengths {f : Addr} {fd : FuncData} {k : Nat} {tf Pt : Addr} (T : GF K mg tf) (F : Fun K "least_lengths" "least_lengths" s_least_lengths f fd) (B : Bs mg) (C_reached_stages : Cal P w K mg base "reached_stages" 3 ["weights", "limit"] (spReach P w K)) (C_stage_values : Cal P w K mg base "stage_values" 2 ["stages"] (spVals P w K))
    (C_ranks : Cal P w K mg base "ranks" 7 ["weights"] (spRanksP K Pt)) (C_least_sum : Cal P w K mg base "least_sum" 1 ["choice", "known"] (spLsum P w K)) :
    FnOk P w K mg base CX0 (k + 8) f fd ["weights", "limit"] (spLL P w K Pt) := by
  refine F.ok sc_least_lengths (fun vs H Q E h => ?_) (fun cdv A outer s H vs Q E hr h => ?_)
  · obtain ⟨l, ws, L, rfl, _⟩ := h
    rfl
  · obtain ⟨l, ws, L, rfl, hw, ⟨v0, hv0⟩, htab, q⟩ := h
    have hu := lt64 hr.units
    refine ⟨_, (pss_cons (ps_set (i := 2) sc_least_lengths.nd rfl (Or.inl rfl) (pe_callC C_reached_stages (hr.mono (by omega)) (by rfl) (pa_cons (pv 0) (pa_cons (pv 1) pa_nil))))
      (pss_cons (ps_set (i := 3) sc_least_lengths.nd rfl (Or.inr rfl) (pe_callC C_stage_values (hr.mono (by omega)) (by rfl) (pa_cons (pv 2) pa_nil)))
      (pss_cons (ps_if (pt_cmpR op_isN (pe_dgx (P := P) (w := w) (K := K) ⟨rfl, rfl, rfl⟩ hu (pv 3) (pe_glob (v := (.ref tf)) (by rfl) T.g_FIRST rfl) (fun _ _ => rfl)) pe_non (nomark _)) (pss_one (ps_ret pe_non)) pss_nil)
      (pss_cons (ps_set (i := 4) sc_least_lengths.nd rfl (Or.inl rfl) (pe_callC C_ranks (hr.mono (by omega)) (by rfl) (pa_cons (pv 0) pa_nil)))
      (pss_cons (ps_set (i := 5) sc_least_lengths.nd rfl (Or.inl rfl) (pe_op op_rep (pe_lst (pa_cons pe_int pa_nil)) (pe_callB call_len_seq (by rfl) B.len PySem.boot_len (pa_cons (pv 0) pa_nil))))
      (pss_cons (ps_set (i := 6) sc_least_lengths.nd rfl (Or.inr rfl) (pe_glob (v := (.ref tf)) (by rfl) T.g_FIRST rfl))
      (pss_cons (ps_while PassesOwn.never (pt_cmpR op_notN (pv 6) pe_non (nomark _)) (pss_cons (ps_asg (pv 6) (pg_tup rfl (pgs_cons (pg_name (i := 7) sc_least_lengths.nd rfl (Or.inl rfl)) (pgs_cons (pg_name (i := 8) sc_least_lengths.nd rfl (Or.inl rfl)) (pgs_cons (pg_name (i := 9) sc_least_lengths.nd rfl (Or.inl rfl)) pgs_nil)))))
      (pss_cons (ps_setLc (i := 10) rfl sc_least_lengths.nd rfl rfl (sw_true rfl rfl rfl (by decide +kernel)) (pi_list (pe_dgx (P := P) (w := w) (K := K) ⟨rfl, rfl, rfl⟩ hu (pv 2) (pv 6) (fun _ _ => rfl))) (blkOk_by (own := [("choice", 11)]) (N := ["weights", "limit", "stages", "known", "order", "lengths", "stage", "depth", "m", "_", "best", "choice", "a", "symbol"]) (sc := defScope s_least_lengths) (by decide +kernel)) (fun _ _ _ _ _ => (pg_name (i := 11) sc_least_lengths.nd rfl (Or.inl rfl))) (fun _ _ _ _ _ => (pts_one (pt_cmpR op_eq (pe_callC C_least_sum (hr.mono (by omega)) (by rfl) (pa_cons (pv 11) (pa_cons (pv 3) pa_nil))) (pe_dgx (P := P) (w := w) (K := K) ⟨rfl, rfl, rfl⟩ hu (pv 3) (pv 6) (fun _ _ => rfl)) (nomark _)))) (fun _ _ _ _ _ => (pv 11)))
      (pss_cons (ps_asg (pe_ix ix_list (pv 10) (pe_un un_neg pe_int) (fun _ _ => rfl)) (pg_tup rfl (pgs_cons (pg_name (i := 12) sc_least_lengths.nd rfl (Or.inl rfl)) (pgs_cons (pg_name (i := 9) sc_least_lengths.nd rfl (Or.inl rfl)) (pgs_cons (pg_name (i := 6) sc_least_lengths.nd rfl (Or.inr rfl)) pgs_nil)))))
      (pss_one (ps_for PassesOwn.never rfl (pi_list (pe_slice sl_list (pv 4) (po_some (pv 8)) (po_some (pe_op op_add (pv 8) (pv 12))))) (pg_name (i := 13) sc_least_lengths.nd rfl (Or.inl rfl)) (pss_one (ps_asg (pv 7) (pg_sub (pv 5) (pv 13) set_list)))))))))
      (pss_one (ps_ret (pv 5)))))))))), ?_⟩
    have hn1 : 1 ≤ nN (sumsL ws) := by have := hw.n1; rw [nN_sums]; omega
    have hn2 : nN (sumsL ws) ≤ 16 := by have := hw.n2; rw [nN_sums]; omega
    have hL1 : (1 : Int) ≤ L := by have := hw.l1; omega
    have hL2 : (L : Int) ≤ 16 := by have := hw.l2; omega
    refine q_asgP (ep_reach hw (ea2 (ev_var rfl) (ev_var rfl))) fun v H1 e1 ⟨d, kvs, ss, ev, hd, hda, hrc, hrs⟩ => ?_
    subst ev
    refine q_asgP (ep_vals (sin_of (hw.ext e1) hda hrc hrs) (ea1 (ev_var rfl))) fun v H2 e2 ⟨d2, ev, hd2, hda2⟩ => ?_
    subst ev
    have kget : ∀ s, Reach (sumsL ws) L s → valV (ss.reverse.map (entV (sumsL ws) L)) (keyS s) = some (ovI (M04.V (sumsL ws) L s)) := fun s r => ent_get (List.mem_reverse.mpr ((hrs.iff s).mpr r))
    refine q_when (et_test (ev_isN (ev_dgx (ev_var rfl) ev_c hda2 (k := keyS (0, 0, 1)) (T.st _) (kget _ .first)) ev_c)) (fun hb H3 e3 => ?_) (fun hb H3 e3 => ?_)
    · rw [hv0] at hb
      exact absurd hb (by simp [ovI])
    · have e13 := (e1.trans e2).trans e3
      refine q_asgL (el_call (ea1 (ev_var rfl)) fun H4 e4 Q q E => ⟨l, ws, rfl, ex_l (e13.trans e4) hw.sq, by have := hw.n2; omega, (e13.trans e4) _ _ htab, fun p H5 hp e5 h5 => q p H5 hp e5 h5⟩) fun lo H4 hlo e4 h4 => ?_
      refine q_asgL (el_rep (el_lst (ea1 ev_c) (by decide)) (ev_len (ev_var rfl) (ex_l (e13.trans e4) hw.sq)) ⟨by omega, by rw [List.length_map]; have := hw.n2; omega⟩ (by decide)) fun ll H5 hll e5 h5 => ?_
      rw [flatr, List.length_map, Int.toNat_natCast, ← List.map_replicate (f := L2.V.int) (a := 0)] at h5
      refine q_asg ev_c fun H6 e6 => ?_
      have e14 := e13.trans e4
      have hll0 : H ll = none := fresh_back e14 hll
      have e26 := ((e3.trans e4).trans e5).trans e6
      have hnl : ∀ kv ∈ kvs, kv.2 ≠ .ref ll := rch_ref hll (rch_ext ((e2.trans e3).trans e4) hrc)
      have hlol : lo ≠ ll := fun z => by rw [← z, h4] at hll; cases hll
      have hrl : (rankL ws).length = ws.length := rank_len ws
      have hord : ∀ x ∈ rankL ws, x < ws.length := fun x hx => rank_lt hx
      refine q_while (fun m σ H' => ∃ (x : L2.V) (acc : List Int) (a b c e g h : Option L2.V), σ = [some (.ref l), some (.int (L : Int)), some (.ref d), some (.ref d2), some (.ref lo), some (.ref ll), some x, a, b, c, e, none, g, h] ∧ Ex H H' ∧ DAt P w K H' d kvs ∧ RCh K (sumsL ws) L H' kvs ss ∧ DAt P w K H' d2 (ss.reverse.map (entV (sumsL ws) L)) ∧
          H' lo = some (.lst (nats (rankL ws))) ∧ H' ll = some (.lst (acc.map L2.V.int)) ∧ acc.length = ws.length ∧ ((x = .non ∧ acc = lensW ws L ∧ m = 0) ∨ ∃ (s : Stg) (t : Addr), x = .ref t ∧ SqT K H' t (stV s) ∧ AtS ws L s acc ∧ m = L + 2 - s.1.toNat)) (L + 2)
        ⟨.ref tf, List.replicate ws.length 0, none, none, none, none, none, none, rfl, (e14.trans e5).trans e6, hda.ext (e2.trans e26), rch_ext (e2.trans e26) hrc, hda2.ext e26, (e5.trans e6) _ _ h4, e6 _ _ h5, List.length_replicate, .inr ⟨(0, 0, 1), tf, rfl, T.st _, AtS.first hv0, rfl⟩⟩ ?_
      rintro m σ H' ⟨x, acc, a, b, c, e, g, h, rfl, ex, da, rc, da2, hlo', hll', hal, hx⟩
      refine ⟨_, et_test (ev_notN (ev_var rfl) ev_c), fun hb H7 e7 => ?_, fun hb H7 e7 => ?_⟩
      · rcases hx with ⟨rfl, _⟩ | ⟨s, t, rfl, hst, ats, rfl⟩
        · simp at hb
        obtain ⟨ch, hp, hc, c0, s0, sL, m0, mn, hnone, hsome⟩ := ats.step hw.l1 hw.n1
        have hre := ats.re
        obtain ⟨hok, hk16⟩ := hre.ok hL1 hn1
        refine ⟨fun σ2 H2 => ∃ m', m' < L + 2 - s.1.toNat ∧ ∃ (x : L2.V) (acc : List Int) (a b c e g h : Option L2.V), σ2 = [some (.ref l), some (.int (L : Int)), some (.ref d), some (.ref d2), some (.ref lo), some (.ref ll), some x, a, b, c, e, none, g, h] ∧ Ex H H2 ∧ DAt P w K H2 d kvs ∧ RCh K (sumsL ws) L H2 kvs ss ∧ DAt P w K H2 d2 (ss.reverse.map (entV (sumsL ws) L)) ∧
          H2 lo = some (.lst (nats (rankL ws))) ∧ H2 ll = some (.lst (acc.map L2.V.int)) ∧ acc.length = ws.length ∧ ((x = .non ∧ acc = lensW ws L ∧ m' = 0) ∨ ∃ (s : Stg) (t : Addr), x = .ref t ∧ SqT K H2 t (stV s) ∧ AtS ws L s acc ∧ m' = L + 2 - s.1.toNat), fun _ _ h => h, ?_⟩
        refine q_unp (ev_var rfl) (ex_t e7 hst) rfl fun H8 e8 => ⟨_, _, rfl, _, _, rfl, _, _, rfl, rfl, ?_⟩
        have e78 := e7.trans e8
        have hst8 := ex_t e78 hst
        have da8 := da.ext e78
        have da28 := da2.ext e78
        obtain ⟨cl, vs, hv, hcl, hcd⟩ := rch_val (rch_ext e78 rc) ((hrs.iff s).mpr hre)
        have hvl : vs.length = (chS (sumsL ws) L s).length := by
          rw [DpAll.len hcd]
          exact List.length_map _
        have hcl16 := ch_len (sums := sumsL ws) (L := L) (d := s.1) (m := s.2.1) (k := s.2.2) (by omega)
        have hcl17 : (chS (sumsL ws) L s).length ≤ 17 := hcl16
        obtain ⟨p, hpd⟩ : ∃ p : Cho → Bool, p = fun c => decide (lsum (M04.V (sumsL ws) L) c = M04.V (sumsL ws) L s) := ⟨_, rfl⟩
        have hcs : ∀ (j : Nat) (y : L2.V), vs[j]? = some y → ∃ c, (chS (sumsL ws) L s)[j]? = some c ∧ Dp K H8 y (chD c) := fun j y hy => by
          obtain ⟨dd, hdd, hyd⟩ := dp_get hcd hy
          unfold chsD at hdd
          rw [List.getElem?_map] at hdd
          cases e : (chS (sumsL ws) L s)[j]? with
          | none => rw [e] at hdd; cases hdd
          | some c =>
            rw [e] at hdd
            have hdd := Option.some.inj hdd
            subst hdd
            exact ⟨c, rfl, hyd⟩
        refine q_asgL (el_lcL (xs := vs) (fun j => match (chS (sumsL ws) L s)[j]? with | some c => p c | none => false) (fun j => vs.getD j .non) (ev_dgx (ev_var rfl) (ev_var rfl) da8 (k := keyS s) hst8 hv) (sq_of hcl) (by omega) (fun x => rfl) (fun j y H9 e9 hy => ?_) (fun j y H9 e9 hy _ => ?_)) fun pb H9 hpb e9 h9 => ?_
        · obtain ⟨c, hcj, hyd⟩ := hcs j y hy
          refine et_is (et_test (ev_op (ev_call (ea2 (ev_var rfl) (ev_var rfl)) (spv_lsum (g := M04.V (sumsL ws) L) (Dp.ext e9 _ _ hyd) (da28.ext e9) fun s' e => kget s' (.next hre (List.mem_of_getElem? hcj) e))) (ev_dgx (ev_var rfl) (ev_var rfl) (da28.ext e9) (k := keyS s) (ex_t e9 hst8) (kget s hre)) (rv_eq (scal_ovI _ _)))) ?_
          rw [dec_ovI, hpd]
          show _ = match (chS (sumsL ws) L s)[j]? with | some c => decide (lsum (M04.V (sumsL ws) L) c = M04.V (sumsL ws) L s) | none => false
          rw [hcj]
        · refine ev_is (ev_var rfl) ?_
          rw [List.getD_eq_getElem?_getD, hy]
          rfl
        · have hkl := keep_list p hcd _ (Nat.le_refl _)
          rw [List.take_length, ← hvl] at hkl
          have hkl9 := DpAll.ext e9 _ _ hkl
          have hgl : ((chS (sumsL ws) L s).filter p).getLast? = some ch := by rw [hpd]; exact hp
          obtain ⟨y, hya, hyd⟩ := dp_last hkl9 hgl
          obtain ⟨tc, n, rfl, hsc, hnd⟩ := ch_at hyd
          refine q_unp (ev_op (ev_var rfl) (ev_un ev_c ru_neg) (rv_ixL (sq_of h9) hya)) hsc rfl fun H10 e10 => ⟨_, _, rfl, _, _, rfl, _, _, rfl, rfl, ?_⟩
          have e810 := e9.trans e10
          have e710 := e78.trans e810
          have hxs : ∀ x ∈ ((rankL ws).drop s.2.1.toNat).take ch.1.toNat, x < ws.length := fun x hx => hord x (List.mem_of_mem_drop (List.mem_of_mem_take hx))
          have ecut : cutV (nats (rankL ws)) (some s.2.1) (some (s.2.1 + ch.1)) = nats (((rankL ws).drop s.2.1.toNat).take ch.1.toNat) := by
            have h1 := cut_mid (nats (rankL ws)) (a := s.2.1.toNat) (b := s.2.1.toNat + ch.1.toNat) (by omega) (by rw [nats_len, hrl]; omega)
            have i1 : ((s.2.1.toNat : Nat) : Int) = s.2.1 := by omega
            have i2 : ((s.2.1.toNat + ch.1.toNat : Nat) : Int) = s.2.1 + ch.1 := by omega
            have i3 : s.2.1.toNat + ch.1.toNat - s.2.1.toNat = ch.1.toNat := by omega
            rw [i1, i2, i3] at h1
            rw [h1]
            unfold nats
            rw [List.map_take, List.map_drop]
          generalize ((rankL ws).drop s.2.1.toNat).take ch.1.toNat = xs at ecut hxs hnone hsome
          have elc := el_sl (K := K) (tl := tPart (tVar 8)) (th := tPart (tOp (rI0 fun i j => .int (i + j)) (tVar 8) (tVar 12))) (te := tVar 4) (σ := [some (.ref l), some (.int (L : Int)), some (.ref d), some (.ref d2), some (.ref lo), some (.ref ll), some n, some (.int s.1), some (.int s.2.1), some (.int ch.2.1), some (.ref pb), none, some (.int ch.1), h]) (H := H10) (ev_var rfl) (eo_some (ev_var rfl)) (eo_some (ev_add (ev_var rfl) (ev_var rfl))) (sq_of (e710 _ _ hlo'))
          rw [ecut] at elc
          refine s_forNL elc (fun pc i σ H' => ∃ h : Option L2.V, σ = [some (.ref l), some (.int (L : Int)), some (.ref d), some (.ref d2), some (.ref lo), some (.ref ll), some n, some (.int s.1), some (.int s.2.1), some (.int ch.2.1), some (.ref pb), none, some (.int ch.1), h] ∧ Ex H H' ∧ DAt P w K H' d kvs ∧ RCh K (sumsL ws) L H' kvs ss ∧ DAt P w K H' d2 (ss.reverse.map (entV (sumsL ws) L)) ∧
              H' lo = some (.lst (nats (rankL ws))) ∧ H' ll = some (.lst ((wr acc s.1.toNat (xs.take i)).map L2.V.int)) ∧ H' pc = some (.lst (nats xs)) ∧ Dp K H' n (nxD ch.2.2) ∧ pc ≠ ll)
            (fun pc H11 hpc e11 h11 => ⟨h, rfl, (ex.trans e710).trans e11, (da.ext e710).ext e11, rch_ext (e710.trans e11) rc, (da2.ext e710).ext e11, (e710.trans e11) _ _ hlo', (e710.trans e11) _ _ hll', h11, Dp.ext (e10.trans e11) _ _ hnd, fun z => by rw [z, e710 _ _ hll'] at hpc; cases hpc⟩)
            (fun pc i σ H' _ hP => by
              obtain ⟨_, _, _, _, _, _, _, _, z, _⟩ := hP
              exact sq_of z) ?_ ?_
          · rintro pc i x σ H11 hxi ⟨h, rfl, ex, da, rc, da2, hlo', hll', hpc, hnd, hne⟩
            unfold nats at hxi
            rw [List.getElem?_map] at hxi
            obtain ⟨k, hk, rfl⟩ : ∃ k, xs[i]? = some k ∧ L2.V.int (k : Int) = x := by
              cases e : xs[i]? with
              | none => rw [e] at hxi; cases hxi
              | some k => rw [e] at hxi; exact ⟨k, rfl, Option.some.inj hxi⟩
            have hkl := hxs k (List.mem_of_getElem? hk)
            refine s_setL (j := k) hll' (ev_var rfl) (ev_var rfl) (ev_var rfl) (by rw [List.length_map, wr_len, hal]; exact hkl) fun H12 e12 => ?_
            have hl12 := e12 _ _ hll'
            refine ⟨_, rfl, Ex.mut (ex.trans e12) hll0, (da.ext e12).put hl12, rch_put hl12 hnl (rch_ext e12 rc), (da2.ext e12).put hl12, by rw [upd_ne hlol]; exact e12 _ _ hlo', ?_, by rw [upd_ne hne]; exact e12 _ _ hpc, Dp.put hl12 _ _ ?_ (Dp.ext e12 _ _ hnd), hne⟩
            · rw [upd_same, List.take_succ, hk]
              show some (HO.lst _) = some (HO.lst ((wr acc s.1.toNat (xs.take i ++ [k])).map L2.V.int))
              rw [wr_snoc, List.map_set]
              have : ((s.1.toNat : Nat) : Int) = s.1 := by omega
              rw [this]
            · cases ch.2.2 with
              | none => rfl
              | some z => rfl
          · rintro pc σ H11 ⟨h, rfl, ex, da, rc, da2, hlo', hll', hpc, hnd, hne⟩
            rw [nats_len, List.take_length] at hll'
            cases en : ch.2.2 with
            | none =>
              have := nx_none hnd en
              subst this
              rw [hnone en] at hll'
              exact ⟨0, by omega, .non, lensW ws L, _, _, _, _, _, _, rfl, ex, da, rc, da2, hlo', hll', by rw [← hnone en, wr_len, hal], .inl ⟨rfl, rfl, rfl⟩⟩
            | some s' =>
              obtain ⟨t', rfl, hst'⟩ := nx_some hnd en
              obtain ⟨h1, h2⟩ := hsome s' en
              exact ⟨L + 2 - s'.1.toNat, by omega, .ref t', _, _, _, _, _, _, _, rfl, ex, da, rc, da2, hlo', hll', by rw [wr_len, hal], .inr ⟨s', t', rfl, hst', h2, rfl⟩⟩
      · rcases hx with ⟨rfl, rfl, rfl⟩ | ⟨s, t, rfl, hst, ats, rfl⟩
        · exact s_ret (ev_var rfl) fun H8 e8 => q ll H8 hll0 ((ex.trans e7).trans e8) (e8 _ _ (e7 _ _ hll'))
        · simp at hb
end
end K16L
set_option Elab.async false
set_option linter.all false
set_option maxRecDepth 100000
set_option maxHeartbeats 4000000
set_option exponentiation.threshold 20000
namespace K16
open PySem PySem.Spec PyProof.Rows L2 StX GX KC KQ KW Evl M08 M09 M10 M01 M14 M15
/-! the lengths of the code of a block -/
def occ (cs : List Int) : List Nat := (List.range cs.length).filter fun k => decide (cs.getD k 0 > 0)
def scatL (o : List Nat) (fs base : List Int) : Nat → List Int
  | 0 => base
  | i + 1 => (scatL o fs base i).set (o.getD i 0) (fs.getD i 0)
def occW (cs : List Int) : List Int := (occ cs).map fun k => cs.getD k 0
def lensB (cs : List Int) : List Int :=
  if (occ cs).length = 1 then (List.replicate cs.length 0).set ((occ cs).getD 0 0) 1 else scatL (occ cs) (M04.lensW (occW cs) 15) (List.replicate cs.length 0) (occ cs).length
theorem occ_lt {cs : List Int} {k : Nat} (h : k ∈ occ cs) : k < cs.length := List.mem_range.mp (List.mem_filter.mp h).1
theorem scat_len (o : List Nat) (fs base : List Int) : ∀ i, (scatL o fs base i).length = base.length
  | 0 => rfl
  | i + 1 => by rw [scatL, List.length_set, scat_len o fs base i]
section
variable {P : Program} {w : World} {K : PySem.W.Frag} {mg : Str → Option Value} {base : Heap} {Cl : Nat → Addr} {σ : L2.St} {H H' : Hp} {ta tb te : TE} {t : TA} {t1 t2 t3 t4 t5 : Tok}
theorem occ_given (cs : List Int) : given (cs.map V.int).length (fun i => decide (cs.getD i 0 > 0)) (fun i => .int (i : Int)) = natsV (occ cs) := by
  unfold given occ
  rw [List.length_map]
def spBLens (K : PySem.W.Frag) (PR : Addr) : Sp := fun vs H Q _ => ∃ (l : Addr) (cs : List Int), vs = [.ref l] ∧ SqL K H l (cs.map V.int) ∧ cs.length ≤ 16 ∧ (∀ x ∈ cs, 0 ≤ x ∧ x ≤ 1000000) ∧ 1 ≤ (occ cs).length ∧ H PR = some (TabX PR) ∧ RetL ((lensB cs).map V.int) H Q
theorem occW_pos {cs : List Int} (h : ∀ x ∈ cs, 0 ≤ x ∧ x ≤ 1000000) : ∀ v ∈ occW cs, 0 ≤ v := fun v hv => by
  obtain ⟨k, hk, rfl⟩ := List.mem_map.mp hv
  have := of_decide_eq_true (List.mem_filter.mp hk).2
  omega
theorem occ_len (cs : List Int) : (occ cs).length ≤ cs.length := by
  have := List.length_filter_le (fun k => decide (cs.getD k 0 > 0)) (List.range cs.length)
  rwa [List.length_range] at this
theorem occ_first {cs : List Int} (h : ∀ x ∈ cs, 0 ≤ x ∧ x ≤ 1000000) (hl : cs.length ≤ 16) (h1 : 1 ≤ (occ cs).length) : ∃ v, M04.V (M03.sumsL (occW cs)) 15 (0, 0, 1) = some v := by
  have hlen : (occW cs).length = (occ cs).length := by unfold occW; rw [List.length_map]
  have := occ_len cs
  exact M04.first_some (ws := occW cs) (L := 15) (by decide) (fun z => by rw [z] at hlen; simp at hlen; omega) (occW_pos h) (by rw [hlen]; exact Nat.le_trans this (Nat.le_trans hl (by decide)))
end
end K16
set_option Elab.async false
set_option linter.all false
set_option maxRecDepth 100000
set_option maxHeartbeats 4000000
set_option exponentiation.threshold 20000
namespace K16
open PySem PySem.Spec PyProof.Rows L2 StX GX KC KQ KW Evl M08 M09 M10 M01 M14 M15
section
variable {P : Program} {w : World} {K : PySem.W.Frag} {mg : Str → Option Value} {base : Heap} {Cl : Nat → Addr} {σ : L2.St} {H H' : Hp} {ta tb te : TE} {t : TA} {t1 t2 t3 t4 t5 : Tok}
theorem el_callN {sp : Sp} {E : XK} {xs zs : List V} {y : V} (h1 : EvL ta σ H xs) (h2 : Ev tb σ H y) (hs : ∀ p H1, Ex H H1 → H1 p = some (.lst xs) → SpL sp ([.ref p, y] ++ []) H1 zs) : EvL (tCall sp [] E (tCons ta (tCons tb tNil))) σ H zs := fun H1 e Q q =>
  h1 H1 e _ fun p H2 hp e2 hx => h2 H2 (e.trans e2) _ fun H3 e3 => hs p H3 ((e.trans e2).trans e3) (e3 _ _ hx) H3 (Ex.refl _) Q (fun p2 H4 hp2 e4 h4 => q p2 H4 (fresh_back (e2.trans e3) hp2) ((e2.trans e3).trans e4) h4) E
theorem lens_len {ws : List Int} {L : Nat} {v : Int} (hL : 1 ≤ L) (hne : ws ≠ []) (hv : M04.V (M03.sumsL ws) L (0, 0, 1) = some v) : (M04.lensW ws L).length = ws.length := by
  obtain ⟨F, hF, hg⟩ := M04.lens_good hL hne hv
  rw [hF]
  unfold M04.asI
  rw [List.length_map, hg.len]
theorem occ_get {cs : List Int} {i : Nat} (h : i < (occ cs).length) : (natsV (occ cs))[i]? = some (.int (((occ cs).getD i 0 : Nat) : Int)) ∧ (occ cs).getD i 0 < cs.length := by
  have e : (occ cs).getD i 0 = (occ cs)[i] := by rw [List.getD_eq_getElem?_getD, List.getElem?_eq_getElem h] <;> rfl
  rw [e]
  exact ⟨by rw [List.getElem?_map, List.getElem?_eq_getElem h] <;> rfl, occ_lt (List.getElem_mem h)⟩
theorem ok_block_lengths {f PR : Addr} {fd : FuncData} {k : Nat} (F : Fun K "block_lengths" "block_lengths" s_block_lengths f fd) (B : Bs mg) (T : GC mg t1 t2 t3 t4 t5) (C_least_lengths : Cal P w K mg base "least_lengths" 8 ["weights", "limit"] (K16L.spLL P w K PR)) : FnOk P w K mg base CX0 (k + 9) f fd ["counts"] (spBLens K PR) := by
  refine F.ok sc_block_lengths (fun vs H Q E h => ?_) (fun cdv A outer s H vs Q E hr h => ?_)
  · obtain ⟨l, cs, rfl, _⟩ := h
    rfl
  · obtain ⟨l, cs, rfl, hs, hl, hb, h1, tR, q⟩ := h
    refine ⟨_, (pss_cons (ps_setLc (i := 1) (g := (gTup K 2 (gCons (gName 2) (gCons (gName 3) gNil)))) rfl sc_block_lengths.nd rfl rfl (sw_true rfl rfl rfl (by decide +kernel)) (pi_enum (by rfl) B.enumerate (pa_cons (pv 0) pa_nil)) (blkOk_by (own := [("symbol", 2), ("count", 3)]) (N := ["counts", "occurring", "symbol", "count", "lengths", "found", "length"]) (sc := defScope s_block_lengths) (by decide +kernel)) (fun _ _ _ _ _ => (pg_tup rfl (pgs_cons (pg_name (i := 2) sc_block_lengths.nd rfl (Or.inl rfl)) (pgs_cons (pg_name (i := 3) sc_block_lengths.nd rfl (Or.inl rfl)) pgs_nil)))) (fun _ _ _ _ _ => (pts_one (pt_cmpR op_gt (pv 3) pe_int (nomark _)))) (fun _ _ _ _ _ => (pv 2)))
      (pss_cons (ps_set (i := 4) sc_block_lengths.nd rfl (Or.inl rfl) (pe_op op_rep (pe_lst (pa_cons pe_int pa_nil)) (pe_callB call_len_seq (by rfl) B.len PySem.boot_len (pa_cons (pv 0) pa_nil))))
      (pss_cons (ps_if (pt_cmpR op_eq (pe_callB call_len_seq (by rfl) B.len PySem.boot_len (pa_cons (pv 1) pa_nil)) pe_int (nomark _)) (pss_cons (ps_asg pe_int (pg_sub (pv 4) (pe_ix ix_list (pv 1) pe_int (fun _ _ => rfl)) set_list))
      (pss_one (ps_ret (pv 4)))) pss_nil)
      (pss_cons (ps_set (i := 5) sc_block_lengths.nd rfl (Or.inl rfl) (pe_callC C_least_lengths (hr.mono (by omega)) (by rfl) (pa_cons (pe_lc rfl sc_block_lengths.nd (pi_list (pv 1)) (blkOk_by (own := [("symbol", 2)]) (N := ["counts", "occurring", "symbol", "count", "lengths", "found", "length"]) (sc := defScope s_block_lengths) (by decide +kernel)) (fun _ _ _ _ _ => (pg_name (i := 2) sc_block_lengths.nd rfl (Or.inl rfl))) (fun _ _ _ _ _ => pts_nil) (fun _ _ _ _ _ => (pe_ix (ix_listK (K := K) rfl) (pv 0) (pv 2) (fun _ _ => rfl)))) (pa_cons (pe_glob (v := .int 15) (by rfl) T.g_LONGEST_WORD ⟨_, rfl⟩) pa_nil))))
      (pss_cons (ps_for PassesOwn.never rfl (pi_zip (by rfl) B.zip (pa_cons (pv 1) (pa_cons (pv 5) pa_nil))) (pg_tup rfl (pgs_cons (pg_name (i := 2) sc_block_lengths.nd rfl (Or.inl rfl)) (pgs_cons (pg_name (i := 6) sc_block_lengths.nd rfl (Or.inl rfl)) pgs_nil))) (pss_one (ps_asg (pv 6) (pg_sub (pv 4) (pv 2) set_list))))
      (pss_one (ps_ret (pv 4)))))))), ?_⟩
    have hol := occ_len cs
    refine q_asgL (xs := natsV (occ cs)) ?_ fun po H1 hpo e1 ho => ?_
    · rw [← occ_given]
      refine el_lcEn _ _ (ev_var rfl) hs (by rw [List.length_map]; omega) (fun x y => rfl) (fun i x H2 e2 hx => ?_) (fun i x H2 e2 hx _ => ev_var rfl)
      have hil : i < cs.length := by
        have := (List.getElem?_eq_some_iff.mp hx).1
        rwa [List.length_map] at this
      rw [int_at hil] at hx
      obtain rfl := Option.some.inj hx
      exact et_test (ev_op (ev_var rfl) ev_c rv_I0)
    refine q_asgL (xs := (List.replicate cs.length 0).map V.int) ?_ fun pl H2 hpl e2 hpl2 => ?_
    · rw [List.map_replicate]
      exact el_rep1 (el_lst (ea1 ev_c) (by decide)) (ev_len (ev_var rfl) (ex_l e1 hs)) (by rw [List.length_map]) (by omega)
    have ho2 := e2 _ _ ho
    have e02 := e1.trans e2
    have hnl : (natsV (occ cs)).length = (occ cs).length := List.length_map _
    refine q_when (b := decide ((occ cs).length = 1)) (et_is (et_test (ev_eq (ev_len (ev_var rfl) (sq_of ho2)) ev_c)) (by rw [hnl, decide_eq_decide]; omega)) (fun hb1 H3 e3 => ?_) (fun hb1 H3 e3 => ?_)
    · have hone := of_decide_eq_true hb1
      obtain ⟨g1, g2⟩ := occ_get (cs := cs) (i := 0) (by omega)
      refine q_setL (j := (occ cs).getD 0 0) (v := .int 1) (e3 _ _ hpl2) ev_c (ev_var rfl) (ev_op (ev_var rfl) ev_c (rv_ixL (sq_of (e3 _ _ ho2)) (atI_nat (j := 0) g1))) (by rw [List.length_map, List.length_replicate]; exact g2) fun H4 e4 => ?_
      refine s_ret (ev_var rfl) fun H5 e5 => q pl H5 (fresh_back e1 hpl) ((Ex.mut ((e02.trans e3).trans e4) (fresh_back e1 hpl)).trans e5) (e5 _ _ ?_)
      rw [upd_same]
      unfold lensB
      rw [if_pos hone, List.map_set]
    · have hno := of_decide_eq_false hb1
      obtain ⟨v, hv⟩ := occ_first hb hl h1
      have hwl : (occW cs).length = (occ cs).length := by unfold occW; rw [List.length_map]
      have hfl := lens_len (L := 15) (by decide) (fun z => by rw [z] at hwl; simp at hwl; omega) hv
      have e03 := e02.trans e3
      refine q_asgL (el_callN (xs := (occW cs).map V.int) (y := .int 15) (zs := (M04.lensW (occW cs) 15).map V.int) ?_ ev_c fun p H4 e4 hp4 H5 e5 Q q E => ⟨p, occW cs, 15, rfl, ⟨sq_of (e5 _ _ hp4), by omega, by omega, by decide, by decide⟩, ⟨v, hv⟩, (e03.trans (e4.trans e5)) _ _ tR, q⟩) fun pf H4 hpf e4 hf4 => ?_
      · have hg : given (natsV (occ cs)).length (fun _ => true) (fun i => V.int (cs.getD ((occ cs).getD i 0) 0)) = (occW cs).map V.int := by
          rw [hnl]
          unfold given
          rw [List.filter_eq_self.mpr fun _ _ => rfl]
          unfold occW
          refine List.ext_getElem (by simp) fun i a1 a2 => ?_
          rw [List.length_map, List.length_range] at a1
          rw [List.getElem_map, List.getElem_map, List.getElem_map, List.getElem_range, List.getD_eq_getElem?_getD (l := occ cs), List.getElem?_eq_getElem a1]
          rfl
        rw [← hg]
        refine el_lcL _ _ (ev_var rfl) (sq_of (e3 _ _ ho2)) (by omega) (fun x => rfl) (fun i x H5 e5 hx => et_yes) (fun i x H5 e5 hx _ => ?_)
        have hil : i < (occ cs).length := by have := (List.getElem?_eq_some_iff.mp hx).1; rwa [hnl] at this
        obtain ⟨g1, g2⟩ := occ_get hil
        rw [g1] at hx
        obtain rfl := Option.some.inj hx
        exact ev_op (ev_var rfl) (ev_var rfl) (rv_ixL (ex_l (e03.trans e5) hs) (atI_at rfl g2))
      · have ho4 := (e3.trans e4) _ _ ho2
        have hpl4 := (e3.trans e4) _ _ hpl2
        have hpl0 := fresh_back e1 hpl
        have nf : pf ≠ pl := fun z => by rw [z, e3 _ _ hpl2] at hpf; cases hpf
        have no : po ≠ pl := fun z => by rw [← z, ho] at hpl; cases hpl
        refine q_forZ (ev_var rfl) (ev_var rfl) (sq_of ho4) (sq_of hf4) (by rw [hnl, List.length_map]; omega) (fun i σ' H' => ∃ x y : Option V, σ' = [some (.ref l), some (.ref po), x, none, some (.ref pl), some (.ref pf), y] ∧ Ex H H' ∧ H' po = some (.lst (natsV (occ cs))) ∧ H' pf = some (.lst ((M04.lensW (occW cs) 15).map V.int)) ∧ H' pl = some (.lst ((scatL (occ cs) (M04.lensW (occW cs) 15) (List.replicate cs.length 0) i).map V.int)))
          (fun H5 e5 => ⟨none, none, rfl, (e03.trans e4).trans e5, e5 _ _ ho4, e5 _ _ hf4, e5 _ _ hpl4⟩) (fun i σ' H' ⟨_, _, _, _, z1, z2, _⟩ => ⟨sq_of z1, sq_of z2⟩) ?_ ?_
        · rintro i x y σ' H' H5 hx hy ⟨a, b, rfl, ex, z1, z2, z3⟩ e5
          have hil : i < (occ cs).length := by have := (List.getElem?_eq_some_iff.mp hx).1; rwa [hnl] at this
          obtain ⟨g1, g2⟩ := occ_get hil
          rw [g1] at hx
          obtain rfl := Option.some.inj hx
          rw [int_at (by omega)] at hy
          obtain rfl := Option.some.inj hy
          refine s_setL (j := (occ cs).getD i 0) (e5 _ _ z3) (ev_var rfl) (ev_var rfl) (ev_var rfl) (by rw [List.length_map, scat_len, List.length_replicate]; exact g2) fun H6 e6 => ⟨_, _, rfl, Ex.mut ((ex.trans e5).trans e6) hpl0, ?_, ?_, ?_⟩
          · rw [upd_ne no]; exact (e5.trans e6) _ _ z1
          · rw [upd_ne nf]; exact (e5.trans e6) _ _ z2
          · rw [upd_same, scatL, List.map_set]
        · rintro σ' H' ⟨a, b, rfl, ex, z1, z2, z3⟩
          rw [hnl] at z3
          refine s_ret (ev_var rfl) fun H5 e5 => q pl H5 hpl0 (ex.trans e5) (e5 _ _ ?_)
          unfold lensB
          rw [if_neg hno]
          exact z3
end
end K16
set_option Elab.async false
set_option linter.all false
set_option maxRecDepth 100000
set_option maxHeartbeats 4000000
set_option exponentiation.threshold 20000
namespace K16
open PySem PySem.Spec PyProof.Rows L2 StX GX KC KQ KW Evl M08 M09 M10 M01 M14 M15
section
variable {P : Program} {w : World} {K : PySem.W.Frag} {mg : Str → Option Value} {base : Heap} {Cl : Nat → Addr} {σ : L2.St} {H H' : Hp} {ta tb te : TE} {t : TA} {t1 t2 t3 t4 t5 : Tok}
theorem ok_law_lengths {f PR : Addr} {fd : FuncData} {k : Nat} (F : Fun K "_law_lengths" "_law_lengths" s_law_lengths f fd) (B : Bs mg) (C_least_lengths : Cal P w K mg base "least_lengths" 8 ["weights", "limit"] (K16L.spLL P w K PR)) : FnOk P w K mg base CX0 (k + 9) f fd ["counts"] (spBLens K PR) := by
  refine F.ok sc_law_lengths (fun vs H Q E h => ?_) (fun cdv A outer s H vs Q E hr h => ?_)
  · obtain ⟨l, cs, rfl, _⟩ := h
    rfl
  · obtain ⟨l, cs, rfl, hs, hl, hb, h1, tR, q⟩ := h
    refine ⟨_, (pss_cons (ps_setLc (i := 1) rfl sc_law_lengths.nd rfl rfl (sw_true rfl rfl rfl (by decide +kernel)) (pi_range1 (by rfl) B.range (pa_cons (pe_callB call_len_seq (by rfl) B.len PySem.boot_len (pa_cons (pv 0) pa_nil)) pa_nil)) (blkOk_by (own := [("k", 2)]) (N := ["counts", "present", "k", "lengths", "count", "found"]) (sc := defScope s_law_lengths) (by decide +kernel)) (fun _ _ _ _ _ => (pg_name (i := 2) sc_law_lengths.nd rfl (Or.inl rfl))) (fun _ _ _ _ _ => (pts_one (pt_cmpR op_gt (pe_ix (ix_listK (K := K) rfl) (pv 0) (pv 2) (fun _ _ => rfl)) pe_int (nomark _)))) (fun _ _ _ _ _ => (pv 2)))
      (pss_cons (ps_setLc (i := 3) rfl sc_law_lengths.nd rfl rfl (sw_true rfl rfl rfl (by decide +kernel)) (pi_list (pv 0)) (blkOk_by (own := [("count", 4)]) (N := ["counts", "present", "k", "lengths", "count", "found"]) (sc := defScope s_law_lengths) (by decide +kernel)) (fun _ _ _ _ _ => (pg_name (i := 4) sc_law_lengths.nd rfl (Or.inl rfl))) (fun _ _ _ _ _ => pts_nil) (fun _ _ _ _ _ => pe_int))
      (pss_cons (ps_if (pt_cmpR op_eq (pe_callB call_len_seq (by rfl) B.len PySem.boot_len (pa_cons (pv 1) pa_nil)) pe_int (nomark _)) (pss_cons (ps_asg pe_int (pg_sub (pv 3) (pe_ix ix_list (pv 1) pe_int (fun _ _ => rfl)) set_list))
      (pss_one (ps_ret (pv 3)))) pss_nil)
      (pss_cons (ps_set (i := 5) sc_law_lengths.nd rfl (Or.inl rfl) (pe_callC C_least_lengths (hr.mono (by omega)) (by rfl) (pa_cons (pe_lc rfl sc_law_lengths.nd (pi_list (pv 1)) (blkOk_by (own := [("k", 2)]) (N := ["counts", "present", "k", "lengths", "count", "found"]) (sc := defScope s_law_lengths) (by decide +kernel)) (fun _ _ _ _ _ => (pg_name (i := 2) sc_law_lengths.nd rfl (Or.inl rfl))) (fun _ _ _ _ _ => pts_nil) (fun _ _ _ _ _ => (pe_ix (ix_listK (K := K) rfl) (pv 0) (pv 2) (fun _ _ => rfl)))) (pa_cons pe_int pa_nil))))
      (pss_cons (ps_for PassesOwn.never rfl (pi_range1 (by rfl) B.range (pa_cons (pe_callB call_len_seq (by rfl) B.len PySem.boot_len (pa_cons (pv 1) pa_nil)) pa_nil)) (pg_name (i := 2) sc_law_lengths.nd rfl (Or.inl rfl)) (pss_one (ps_asg (pe_ix ix_list (pv 5) (pv 2) (fun _ _ => rfl)) (pg_sub (pv 3) (pe_ix ix_list (pv 1) (pv 2) (fun _ _ => rfl)) set_list))))
      (pss_one (ps_ret (pv 3)))))))), ?_⟩
    have hol := occ_len cs
    have hcn : ((cs.map V.int).length : Int) = (cs.length : Int) := by rw [List.length_map]
    refine q_asgL (xs := natsV (occ cs)) ?_ fun po H1 hpo e1 ho => ?_
    · have hg : given ((cs.length : Int)).toNat (fun i => decide (cs.getD i 0 > 0)) (fun i => V.int (i : Int)) = natsV (occ cs) := by
        rw [Int.toNat_natCast, ← occ_given, List.length_map]
      rw [← hg]
      refine el_lcR1 (n := (cs.length : Int)) _ _ (ea1 (ev_is (ev_len (ev_var rfl) hs) (by rw [hcn]))) ⟨by omega, by omega⟩ (fun x => rfl) (fun i H2 e2 hi => ?_) (fun i H2 e2 hi _ => ev_var rfl)
      exact et_test (ev_op (ev_op (ev_var rfl) (ev_var rfl) (rv_ixL (ex_l e2 hs) (atI_at rfl (by omega)))) ev_c rv_I0)
    refine q_asgL (xs := (List.replicate cs.length 0).map V.int) ?_ fun pl H2 hpl e2 hpl2 => ?_
    · have hg : given (cs.map V.int).length (fun _ => true) (fun _ => V.int 0) = (List.replicate cs.length 0).map V.int := by
        unfold given
        rw [List.filter_eq_self.mpr fun _ _ => rfl, List.length_map]
        refine List.ext_getElem (by simp) fun i a1 a2 => by simp
      rw [← hg]
      exact el_lcL _ _ (ev_var rfl) (ex_l e1 hs) (by rw [List.length_map]; omega) (fun x => rfl) (fun i x H5 e5 hx => et_yes) (fun i x H5 e5 hx _ => ev_c)
    have ho2 := e2 _ _ ho
    have e02 := e1.trans e2
    have hnl : (natsV (occ cs)).length = (occ cs).length := List.length_map _
    refine q_when (b := decide ((occ cs).length = 1)) (et_is (et_test (ev_eq (ev_len (ev_var rfl) (sq_of ho2)) ev_c)) (by rw [hnl, decide_eq_decide]; omega)) (fun hb1 H3 e3 => ?_) (fun hb1 H3 e3 => ?_)
    · have hone := of_decide_eq_true hb1
      obtain ⟨g1, g2⟩ := occ_get (cs := cs) (i := 0) (by omega)
      refine q_setL (j := (occ cs).getD 0 0) (v := .int 1) (e3 _ _ hpl2) ev_c (ev_var rfl) (ev_op (ev_var rfl) ev_c (rv_ixL (sq_of (e3 _ _ ho2)) (atI_nat (j := 0) g1))) (by rw [List.length_map, List.length_replicate]; exact g2) fun H4 e4 => ?_
      refine s_ret (ev_var rfl) fun H5 e5 => q pl H5 (fresh_back e1 hpl) ((Ex.mut ((e02.trans e3).trans e4) (fresh_back e1 hpl)).trans e5) (e5 _ _ ?_)
      rw [upd_same]
      unfold lensB
      rw [if_pos hone, List.map_set]
    · have hno := of_decide_eq_false hb1
      obtain ⟨v, hv⟩ := occ_first hb hl h1
      have hwl : (occW cs).length = (occ cs).length := by unfold occW; rw [List.length_map]
      have hfl := lens_len (L := 15) (by decide) (fun z => by rw [z] at hwl; simp at hwl; omega) hv
      have e03 := e02.trans e3
      refine q_asgL (el_callN (xs := (occW cs).map V.int) (y := .int 15) (zs := (M04.lensW (occW cs) 15).map V.int) ?_ ev_c fun p H4 e4 hp4 H5 e5 Q q E => ⟨p, occW cs, 15, rfl, ⟨sq_of (e5 _ _ hp4), by omega, by omega, by decide, by decide⟩, ⟨v, hv⟩, (e03.trans (e4.trans e5)) _ _ tR, q⟩) fun pf H4 hpf e4 hf4 => ?_
      · have hg : given (natsV (occ cs)).length (fun _ => true) (fun i => V.int (cs.getD ((occ cs).getD i 0) 0)) = (occW cs).map V.int := by
          rw [hnl]
          unfold given
          rw [List.filter_eq_self.mpr fun _ _ => rfl]
          unfold occW
          refine List.ext_getElem (by simp) fun i a1 a2 => ?_
          rw [List.length_map, List.length_range] at a1
          rw [List.getElem_map, List.getElem_map, List.getElem_map, List.getElem_range, List.getD_eq_getElem?_getD (l := occ cs), List.getElem?_eq_getElem a1]
          rfl
        rw [← hg]
        refine el_lcL _ _ (ev_var rfl) (sq_of (e3 _ _ ho2)) (by omega) (fun x => rfl) (fun i x H5 e5 hx => et_yes) (fun i x H5 e5 hx _ => ?_)
        have hil : i < (occ cs).length := by have := (List.getElem?_eq_some_iff.mp hx).1; rwa [hnl] at this
        obtain ⟨g1, g2⟩ := occ_get hil
        rw [g1] at hx
        obtain rfl := Option.some.inj hx
        exact ev_op (ev_var rfl) (ev_var rfl) (rv_ixL (ex_l (e03.trans e5) hs) (atI_at rfl g2))
      · have ho4 := (e3.trans e4) _ _ ho2
        have hpl4 := (e3.trans e4) _ _ hpl2
        have hpl0 := fresh_back e1 hpl
        have nf : pf ≠ pl := fun z => by rw [z, e3 _ _ hpl2] at hpf; cases hpf
        have no : po ≠ pl := fun z => by rw [← z, ho] at hpl; cases hpl
        refine q_forR1 (n := ((occ cs).length : Int)) (ea1 (ev_is (ev_len (ev_var rfl) (sq_of ho4)) (by rw [hnl]))) ⟨by omega, by omega⟩ (fun i σ' H' => ∃ x : Option V, σ' = [some (.ref l), some (.ref po), x, some (.ref pl), none, some (.ref pf)] ∧ Ex H H' ∧ H' po = some (.lst (natsV (occ cs))) ∧ H' pf = some (.lst ((M04.lensW (occW cs) 15).map V.int)) ∧ H' pl = some (.lst ((scatL (occ cs) (M04.lensW (occW cs) 15) (List.replicate cs.length 0) i).map V.int)))
          (fun H5 e5 => ⟨none, rfl, (e03.trans e4).trans e5, e5 _ _ ho4, e5 _ _ hf4, e5 _ _ hpl4⟩) ?_ ?_
        · rintro i σ' H' hi ⟨a, rfl, ex, z1, z2, z3⟩
          have hil : i < (occ cs).length := by omega
          obtain ⟨g1, g2⟩ := occ_get hil
          refine s_setL (j := (occ cs).getD i 0) z3 (ev_op (ev_var rfl) (ev_var (v := .int (i : Int)) rfl) (rv_ixL (sq_of z2) (atI_at rfl (by omega)))) (ev_var rfl) (ev_op (ev_var rfl) (ev_var (v := .int (i : Int)) rfl) (rv_ixL (sq_of z1) (atI_nat g1))) (by rw [List.length_map, scat_len, List.length_replicate]; exact g2) fun H6 e6 => ⟨_, rfl, Ex.mut (ex.trans e6) hpl0, ?_, ?_, ?_⟩
          · rw [upd_ne no]; exact e6 _ _ z1
          · rw [upd_ne nf]; exact e6 _ _ z2
          · rw [upd_same, scatL, List.map_set]
        · rintro σ' H' ⟨a, rfl, ex, z1, z2, z3⟩
          rw [Int.toNat_natCast] at z3
          refine s_ret (ev_var rfl) fun H5 e5 => q pl H5 hpl0 (ex.trans e5) (e5 _ _ ?_)
          unfold lensB
          rw [if_neg hno]
          exact z3
end
end K16
set_option Elab.async false
set_option linter.all false
set_option maxRecDepth 100000
set_option maxHeartbeats 4000000
set_option exponentiation.threshold 20000
namespace K16
open PySem PySem.Spec PyProof.Rows L2 StX GX KC KQ KW Evl M08 M09 M10 M01 M14 M15
section
variable {P : Program} {w : World} {K : PySem.W.Frag} {mg : Str → Option Value} {base : Heap} {Cl : Nat → Addr} {σ : L2.St} {H H' : Hp} {ta tb te : TE}
theorem ok_law_gamma {f : Addr} {fd : FuncData} {k : Nat} (F : Fun K "_law_gamma" "_law_gamma" s_law_gamma f fd) (B : Bs mg) : FnOk P w K mg base CX0 (k + 1) f fd ["n"] (spN gam fun n => n < 2 ^ 20) := by
  refine F.ok sc_law_gamma (fun vs H Q E h => ?_) (fun cdv A outer s H vs Q E hr h => ?_)
  · obtain ⟨n, rfl, _⟩ := h
    rfl
  · obtain ⟨n, rfl, h1, h2, h3, q⟩ := h
    refine ⟨_, (pss_cons (ps_set (i := 1) sc_law_gamma.nd rfl (Or.inr rfl) pe_int)
      (pss_cons (ps_for PassesOwn.never rfl (pi_range1 (by rfl) B.range (pa_cons pe_int pa_nil)) (pg_name (i := 2) sc_law_gamma.nd rfl (Or.inl rfl)) (pss_one (ps_if (pt_cmpR op_le (pe_op op_shl pe_int (pv 1)) (pv 0) (nomark _)) (pss_one (ps_set (i := 1) sc_law_gamma.nd rfl (Or.inr rfl) (pe_op op_add (pv 1) pe_int))) pss_nil)))
      (pss_one (ps_ret (pe_op op_cat (pe_lc rfl sc_law_gamma.nd (pi_range1 (by rfl) B.range (pa_cons (pe_op op_sub (pv 1) pe_int) pa_nil)) (blkOk_by (own := [("k", 2)]) (N := ["n", "width", "k"]) (sc := defScope s_law_gamma) (by decide +kernel)) (fun _ _ _ _ _ => (pg_name (i := 2) sc_law_gamma.nd rfl (Or.inl rfl))) (fun _ _ _ _ _ => pts_nil) (fun _ _ _ _ _ => pe_int)) (pe_lc rfl sc_law_gamma.nd (pi_range1 (by rfl) B.range (pa_cons (pv 1) pa_nil)) (blkOk_by (own := [("k", 2)]) (N := ["n", "width", "k"]) (sc := defScope s_law_gamma) (by decide +kernel)) (fun _ _ _ _ _ => (pg_name (i := 2) sc_law_gamma.nd rfl (Or.inl rfl))) (fun _ _ _ _ _ => pts_nil) (fun _ _ _ _ _ => (pe_op op_mod (pe_op op_fdivW (pv 0) (pe_op op_shl pe_int (pe_op op_sub (pe_op op_sub (pv 1) pe_int) (pv 2)))) pe_int)))))))), ?_⟩
    have hb := bl_le h1 h3
    have hb1 : 1 ≤ bl n := by unfold bl; omega
    refine q_asg (v := .int 1) ev_c fun H1 e1 => ?_
    refine q_forR1 (n := 20) (ea1 ev_c) ⟨by decide, by decide⟩ (fun i σ' H' => ∃ x, σ' = [some (.int (n : Int)), some (.int ((if i + 1 ≤ bl n then i + 1 else bl n : Nat) : Int)), x] ∧ Ex H H') (fun H2 e2 => ⟨none, by rw [if_pos hb1]; rfl, e1.trans e2⟩) ?_ ?_
    · rintro i σ' H' hi ⟨x, rfl, ex⟩
      obtain ⟨c, hc⟩ : ∃ c, c = (if i + 1 ≤ bl n then i + 1 else bl n) := ⟨_, rfl⟩
      rw [← hc]
      have hc2 : c ≤ 20 := by rw [hc]; split <;> omega
      refine s_when (b := decide (c < bl n)) (et_is (et_test (ev_op (ev_shl1 (m := c) (ev_var rfl) rfl (by omega)) (ev_var (v := .int (n : Int)) rfl) rv_I0)) (decide_eq_decide.mpr ?_)) (fun hb2 H2 e2 => ?_) (fun hb2 H2 e2 => ?_)
      · rw [← bl_iff h1]
        constructor
        · intro z
          exact_mod_cast z
        · intro z
          exact_mod_cast z
      · have hlt := of_decide_eq_true hb2
        refine s_asg (v := .int ((c + 1 : Nat) : Int)) (ev_is (ev_add (ev_var (v := .int (c : Int)) rfl) ev_c) (by congr 1)) fun H3 e3 => ⟨some (.int (i : Int)), ?_, (ex.trans e2).trans e3⟩
        have : c = i + 1 := by
          by_cases z : i + 1 ≤ bl n
          · rw [if_pos z] at hc
            exact hc
          · rw [if_neg z] at hc
            omega
        rw [if_pos (by omega), ← this]
        rfl
      · have hge := of_decide_eq_false hb2
        refine ⟨some (.int (i : Int)), ?_, ex.trans e2⟩
        have : c = bl n := by
          by_cases z : i + 1 ≤ bl n
          · rw [if_pos z] at hc
            omega
          · rw [if_neg z] at hc
            exact hc
        rw [this]
        by_cases z : i + 1 + 1 ≤ bl n
        · rw [hc, if_pos (by omega)] at this
          omega
        · rw [if_neg z]
          rfl
    · rintro σ' H' ⟨x, rfl, ex⟩
      have e20 : ((20 : Int)).toNat = 20 := rfl
      rw [e20, if_neg (by omega)]
      refine s_retL (xs := (gam n).map V.int) ?_ fun p H2 np e2 h2 => q p H2 (fresh_back ex np) (ex.trans e2) h2
      unfold gam
      rw [List.map_append, repV, bitsV]
      refine el_catLL (el_lcN _ (ea1 (ev_sub (ev_var rfl) ev_c)) (by omega) (by omega) (fun x => rfl) fun j H9 e9 hj => ev_c) (el_lcN _ (ea1 (ev_var rfl)) rfl (by omega) (fun x => rfl) fun j H9 e9 hj => ?_) (by rw [List.length_map, List.length_map, List.length_range, List.length_range]; omega)
      exact ev_op (ev_op (ev_var (v := .int (n : Int)) rfl) (ev_shl1 (m := bl n - 1 - j) (ev_sub (ev_sub (ev_var (v := .int (bl n : Int)) rfl) ev_c) (ev_var (v := .int (j : Int)) rfl)) (by omega) (by omega)) (rv_divP (by omega))) ev_c (rv_mod (by decide))
end
end K16
set_option Elab.async false
set_option linter.all false
set_option maxRecDepth 100000
set_option maxHeartbeats 4000000
set_option exponentiation.threshold 20000
namespace K16
open PySem PySem.Spec PyProof.Rows L2 StX GX KC KQ KW Evl M08 M09 M10 M01 M14 M15
section
variable {P : Program} {w : World} {K : PySem.W.Frag} {mg : Str → Option Value} {base : Heap} {Cl : Nat → Addr} {σ : L2.St} {H H' : Hp} {ta tb te : TE}
def spBlock (K : PySem.W.Frag) : Sp := fun vs H Q _ => ∃ (l : Addr) (ns : List Int) (n : Nat), vs = [.ref l, .int 1, .int 30, .int (n : Int)] ∧ SqL K H l (ns.map V.int) ∧ ns.length ≤ 63 ∧ 1 ≤ n ∧
  ∀ p bs H2, H p = none → Ex H H2 → H2 p = some (.lst (natsV bs)) → (∀ s ∈ bs, s < n) → bs.length ≤ 60 → Q (.ref p) H2
theorem q_mid {t : TT} {s1 tz : TS} {b : Bool} {D : Ends} (Mid : L2.St → Hp → Prop) (h : EvT t σ H b) (h1 : b = true → ∀ H1, Ex H H1 → ∀ D' : Ends, (∀ σ' H', Mid σ' H' → D'.nx σ' H') → s1 D' σ H1) (h2 : b = false → ∀ H1, Ex H H1 → Mid σ H1) (h3 : ∀ σ' H', Mid σ' H' → tz D σ' H') : tSeq (tIfS t s1 tNext) tz D σ H :=
  q_when h (fun hb H1 e1 => h1 hb H1 e1 _ fun σ' H' m => h3 σ' H' m) (fun hb H1 e1 => h3 _ _ (h2 hb H1 e1))
theorem nat_mod {x : Int} {n : Nat} (h : 1 ≤ n) : ∃ s : Nat, s < n ∧ x % (n : Int) = (s : Int) := by
  have a := Int.emod_nonneg x (show (n : Int) ≠ 0 by omega)
  have b := Int.emod_lt_of_pos x (show (0 : Int) < (n : Int) by omega)
  exact ⟨(x % (n : Int)).toNat, by omega, by omega⟩
theorem ok_law_block {f : Addr} {fd : FuncData} {k : Nat} (F : Fun K "_law_block" "_law_block" s_law_block f fd) (B : Bs mg) (C_law_cell : Cal P w K mg base "_law_cell" 1 ["script", "k"] (spCell K)) : FnOk P w K mg base CX0 (k + 2) f fd ["script", "first", "most", "size"] (spBlock K) := by
  refine F.ok sc_law_block (fun vs H Q E h => ?_) (fun cdv A outer s H vs Q E hr h => ?_)
  · obtain ⟨l, ns, n, rfl, _⟩ := h
    rfl
  · obtain ⟨l, ns, n, rfl, hs, hl, hn, q⟩ := h
    refine ⟨_, (pss_cons (ps_set (i := 4) sc_law_block.nd rfl (Or.inl rfl) (pe_callC C_law_cell (hr.mono (by omega)) (by rfl) (pa_cons (pv 0) (pa_cons (pv 1) pa_nil))))
      (pss_cons (ps_set (i := 5) sc_law_block.nd rfl (Or.inl rfl) (pe_lst pa_nil))
      (pss_cons (ps_for PassesOwn.never rfl (pi_range2 (by rfl) B.range (pa_cons (pe_op op_add (pv 1) pe_int) (pa_cons (pe_callB (call_min2 rfl) (by rfl) B.min (by decide +kernel) (pa_cons (pe_callB call_len_seq (by rfl) B.len PySem.boot_len (pa_cons (pv 0) pa_nil)) (pa_cons (pe_op op_add (pe_op op_add (pv 1) pe_int) (pv 2)) pa_nil))) pa_nil))) (pg_name (i := 6) sc_law_block.nd rfl (Or.inl rfl)) (pss_cons (ps_set (i := 7) sc_law_block.nd rfl (Or.inl rfl) (pe_callTy call_int1 (by rfl) B.int (by decide +kernel) (pa_cons (pe_ix ix_list (pv 0) (pv 6) (fun _ _ => rfl)) pa_nil)))
      (pss_cons (ps_set (i := 8) sc_law_block.nd rfl (Or.inl rfl) (pe_op op_mod (pv 7) (pv 3)))
      (pss_cons (ps_if (pt_cmpR op_eq (pe_op op_mod (pv 4) pe_int) pe_int (nomark _)) (pss_one (ps_set (i := 8) sc_law_block.nd rfl (Or.inl rfl) (pe_op op_mul (pe_op op_fdiv (pe_op op_mod (pv 7) pe_int) pe_int) (pe_op op_mod (pe_op op_fdiv (pv 7) pe_int) (pv 3))))) pss_nil)
      (pss_one (ps_for PassesOwn.never rfl (pi_range1 (by rfl) B.range (pa_cons (pe_op op_add pe_int (pe_op op_mul (pe_op op_mod (pe_op op_fdiv (pv 4) pe_int) pe_int) (pe_op op_mod (pe_op op_fdiv (pv 7) pe_int) pe_int))) pa_nil)) (pg_name (i := 9) sc_law_block.nd rfl (Or.inl rfl)) (pss_one (ps_expr (pe_bm PySem.F.plainAttrs_list PySem.F.slot_list_append PySem.F.type_list_append mt_append (pv 5) (pa_cons (pv 8) pa_nil))))))))))
      (pss_one (ps_ret (pe_slice sl_list (pv 5) po_none (po_some pe_int))))))), ?_⟩
    refine q_asg (v := .int (cellOf ns 1)) (ev_call (ea2 (ev_var rfl) (ev_var rfl)) (spv_cell (j := 1) hs rfl)) fun H1 e1 => ?_
    refine q_asgL (el_lst ea_nil (by decide)) fun p H2 hp e2 hp2 => ?_
    have e02 := e1.trans e2
    have hp0 := fresh_back e1 hp
    have hxl : ((ns.map V.int).length : Int) = (ns.length : Int) := by rw [List.length_map]
    obtain ⟨c, hc⟩ : ∃ c, c = cellOf ns 1 := ⟨_, rfl⟩
    rw [← hc]
    refine q_forR2 (lo := 2) (n := if (ns.length : Int) < 32 then (ns.length : Int) else 32) (ea2 (ev_is (ev_add (ev_var rfl) ev_c) rfl) (ev_is (ev_min (ev_is (ev_len (ev_var rfl) (ex_l e02 hs)) (by rw [hxl])) (ev_is (ev_add (ev_add (ev_var rfl) ev_c) (ev_var rfl)) rfl)) (by congr 1; split <;> split <;> omega))) ⟨by decide, by decide, by split <;> omega, by split <;> omega⟩
      (fun i σ' H' => ∃ (a b d g : Option V) (bs : List Nat), σ' = [some (.ref l), some (.int 1), some (.int 30), some (.int (n : Int)), some (.int c), some (.ref p), a, b, d, g] ∧ Ex H H' ∧ H' p = some (.lst (natsV bs)) ∧ (∀ s ∈ bs, s < n) ∧ bs.length ≤ 7 * i) (fun H3 e3 => ⟨none, none, none, none, [], rfl, e02.trans e3, e3 _ _ hp2, fun s hs => absurd hs List.not_mem_nil, by simp⟩) ?_ ?_
    · rintro i σ' H' hi ⟨a, b, d, g, bs, rfl, ex, hb, hbn, hbl⟩
      have hil : 2 + i < ns.length := by split at hi <;> omega
      have hp1 : Ex H H' := ex
      generalize ho : ns.getD (2 + i) 0 = o
      refine q_asg (v := .int o) (fun Hh e Q q => ⟨_, rfl, _, rfl, l, _, _, _, rfl, rfl, ex_l (ex.trans e) hs, (by rw [← ho]; exact atI_at (i := 2 + i) (by push_cast; rfl) hil), .inl ⟨_, rfl, q Hh (Ex.refl _)⟩⟩) fun H3 e3 => ?_
      obtain ⟨s0, hs0, es0⟩ := nat_mod (x := o) hn
      refine q_asg (v := .int (s0 : Int)) (ev_is (ev_op (ev_var (v := .int o) rfl) (ev_var (v := .int (n : Int)) rfl) (rv_mod (by omega))) (by rw [es0])) fun H4 e4 => ?_
      have ex4 := (ex.trans e3).trans e4
      refine q_mid (fun σ' H' => ∃ s1 : Nat, s1 < n ∧ σ' = [some (.ref l), some (.int 1), some (.int 30), some (.int (n : Int)), some (.int c), some (.ref p), some (.int (2 + (i : Int))), some (.int o), some (.int (s1 : Int)), g] ∧ Ex H4 H') (et_test (ev_eq (ev_op (ev_var (v := .int c) rfl) ev_c (rv_mod (by decide))) ev_c)) (fun hbb H5 e5 D' nx => ?_) (fun hbb H5 e5 => ⟨s0, hs0, rfl, e5⟩) fun σ5 H5 m5 => ?_
      · obtain ⟨s1, hs1, es1⟩ := nat_mod (x := o / 5) hn
        refine s_asg (v := .int ((if o % 5 / 4 = 1 then s1 else 0 : Nat) : Int)) (ev_is (ev_op (ev_op (ev_op (ev_var (v := .int o) rfl) ev_c (rv_mod (by decide))) ev_c (rv_div (by decide) (by decide))) (ev_op (ev_op (ev_var (v := .int o) rfl) ev_c (rv_div (by decide) (by decide))) (ev_var (v := .int (n : Int)) rfl) (rv_mod (by omega))) (rv_mul (by omega))) ?_) fun H6 e6 => nx _ _ ⟨if o % 5 / 4 = 1 then s1 else 0, by split <;> omega, rfl, e5.trans e6⟩
        rw [es1]
        by_cases z : o % 5 / 4 = 1
        · rw [if_pos z, z, Int.one_mul]
        · rw [if_neg z, show o % 5 / 4 = 0 by omega, Int.zero_mul]
          rfl
      · obtain ⟨s1, hs1, rfl, e5⟩ := m5
        obtain ⟨u, hu, eu⟩ := nat_mod (x := c / 3) (n := 4) (by decide)
        obtain ⟨v, hv, ev⟩ := nat_mod (x := o / 7) (n := 3) (by decide)
        have huv : u * v ≤ 3 * 2 := Nat.mul_le_mul (by omega) (by omega)
        have ex5 := ex4.trans e5
        have hb5 := ((e3.trans e4).trans e5) _ _ hb
        refine s_forR1 (n := ((1 + u * v : Nat) : Int)) (ea1 (ev_is (ev_add ev_c (ev_op (ev_op (ev_op (ev_var (v := .int c) rfl) ev_c (rv_div (by decide) (by decide))) ev_c (rv_mod (by decide))) (ev_op (ev_op (ev_var (v := .int o) rfl) ev_c (rv_div (by decide) (by decide))) ev_c (rv_mod (by decide))) (rv_mul (by omega)))) ?_)) ⟨by omega, by omega⟩
          (fun j' σ' H' => ∃ g' : Option V, σ' = [some (.ref l), some (.int 1), some (.int 30), some (.int (n : Int)), some (.int c), some (.ref p), some (.int (2 + (i : Int))), some (.int o), some (.int (s1 : Int)), g'] ∧ Ex H H' ∧ H' p = some (.lst (natsV (bs ++ List.replicate j' s1)))) (fun H6 e6 => ⟨g, rfl, ex5.trans e6, by rw [List.replicate_zero, List.append_nil]; exact e6 _ _ hb5⟩) ?_ ?_
        · have eu' : c / 3 % 4 = (u : Int) := eu
          have ev' : o / 7 % 3 = (v : Int) := ev
          rw [eu', ev']
          push_cast
          rfl
        · rintro j' σ' H6 hj ⟨g', rfl, ex6, hb6⟩
          refine s_app hb6 (ev_var rfl) (ev_var (v := .int (s1 : Int)) rfl) (by rw [List.length_map, List.length_append, List.length_replicate]; omega) fun H7 e7 => ⟨_, rfl, Ex.mut (ex6.trans e7) hp0, ?_⟩
          rw [upd_same, List.replicate_succ', ← List.append_assoc]
          simp [natsV]
        · rintro σ' H6 ⟨g', rfl, ex6, hb6⟩
          rw [Int.toNat_natCast] at hb6
          refine ⟨_, _, _, _, _, rfl, ex6, hb6, fun s hs => ?_, by rw [List.length_append, List.length_replicate]; omega⟩
          rcases List.mem_append.mp hs with z | z
          · exact hbn s z
          · rw [List.eq_of_mem_replicate z]
            exact hs1
    · rintro σ' H' ⟨a, b, d, g, bs, rfl, ex, hb, hbn, hbl⟩
      refine s_retL (el_sl (ev_var rfl) eo_none (eo_some ev_c) (sq_of hb)) fun p2 H3 hp2 e3 h3 => ?_
      have e60 : cutV (natsV bs) none (some 60) = natsV (bs.take 60) := by
        have := cutV_to (natsV bs) 60
        rw [show (60 : Int) = ((60 : Nat) : Int) from rfl, this]
        exact (List.map_take ..).symm
      rw [e60] at h3
      exact q p2 (bs.take 60) H3 (fresh_back ex hp2) (ex.trans e3) h3 (fun s hs => hbn s (List.mem_of_mem_take hs)) (by rw [List.length_take]; omega)
end
end K16
set_option Elab.async false
set_option linter.all false
set_option maxRecDepth 100000
set_option maxHeartbeats 4000000
namespace K16P
open PySem PySem.Spec PyProof.Rows L2 StX GX KC Evl M01
def topS (i : Nat) : Stmt := PySem.Challenge.pw_kraftroom_k16_forms_of_a_block.main.body.getD i (.Pass ⟨0, 0, 0, 0⟩)
abbrev s_wall : Stmt := topS 0
theorem sc_wall : FnScope ["k"] ["k"] (defScope s_wall) := ⟨rfl, rfl, rfl, by decide +kernel, rfl, by decide +kernel, by decide +kernel⟩
abbrev s_field_bits : Stmt := topS 2
theorem sc_field_bits : FnScope ["number", "width", "at"] ["number", "width"] (defScope s_field_bits) := ⟨rfl, rfl, rfl, by decide +kernel, rfl, by decide +kernel, by decide +kernel⟩
abbrev s_gamma_bits : Stmt := topS 4
theorem sc_gamma_bits : FnScope ["n", "count"] ["n"] (defScope s_gamma_bits) := ⟨rfl, rfl, rfl, by decide +kernel, rfl, by decide +kernel, by decide +kernel⟩
abbrev s_narrowed : Stmt := topS 7
theorem sc_narrowed : FnScope ["span", "model", "symbol", "low", "width", "whole", "total"] ["span", "model", "symbol"] (defScope s_narrowed) := ⟨rfl, rfl, rfl, by decide +kernel, rfl, by decide +kernel, by decide +kernel⟩
abbrev s_interval : Stmt := topS 8
theorem sc_interval : FnScope ["model", "message", "teller", "span", "symbol"] ["model", "message"] (defScope s_interval) := ⟨rfl, rfl, rfl, by decide +kernel, rfl, by decide +kernel, by decide +kernel⟩
abbrev s_least_exponent : Stmt := topS 9
theorem sc_least_exponent : FnScope ["width", "whole", "exponent"] ["width", "whole"] (defScope s_least_exponent) := ⟨rfl, rfl, rfl, by decide +kernel, rfl, by decide +kernel, by decide +kernel⟩
abbrev s_holds : Stmt := topS 10
theorem sc_holds : FnScope ["span", "number", "count", "low", "width", "whole"] ["span", "number", "count"] (defScope s_holds) := ⟨rfl, rfl, rfl, by decide +kernel, rfl, by decide +kernel, by decide +kernel⟩
abbrev s_first_number : Stmt := topS 11
theorem sc_first_number : FnScope ["span", "count", "low", "_", "whole"] ["span", "count"] (defScope s_first_number) := ⟨rfl, rfl, rfl, by decide +kernel, rfl, by decide +kernel, by decide +kernel⟩
abbrev s_encode_message : Stmt := topS 12
theorem sc_encode_message : FnScope ["model", "message", "span", "count"] ["model", "message"] (defScope s_encode_message) := ⟨rfl, rfl, rfl, by decide +kernel, rfl, by decide +kernel, by decide +kernel⟩
abbrev s_ranks : Stmt := topS 15
theorem sc_ranks : FnScope ["weights", "order", "_", "symbol"] ["weights"] (defScope s_ranks) := ⟨rfl, rfl, rfl, by decide +kernel, rfl, by decide +kernel, by decide +kernel⟩
abbrev s_rests : Stmt := topS 16
theorem sc_rests : FnScope ["weights", "sums", "weight"] ["weights"] (defScope s_rests) := ⟨rfl, rfl, rfl, by decide +kernel, rfl, by decide +kernel, by decide +kernel⟩
abbrev s_word_counts : Stmt := topS 17
theorem sc_word_counts : FnScope ["limit", "depth", "free", "left"] ["limit", "depth", "free", "left"] (defScope s_word_counts) := ⟨rfl, rfl, rfl, by decide +kernel, rfl, by decide +kernel, by decide +kernel⟩
abbrev s_stage_choices : Stmt := topS 18
theorem sc_stage_choices : FnScope ["sums", "limit", "stage", "depth", "m", "free", "left", "found", "a"] ["sums", "limit", "stage"] (defScope s_stage_choices) := ⟨rfl, rfl, rfl, by decide +kernel, rfl, by decide +kernel, by decide +kernel⟩
abbrev s_reached_stages : Stmt := topS 19
theorem sc_reached_stages : FnScope ["weights", "limit", "sums", "found", "waiting", "following", "stage", "choice"] ["weights", "limit"] (defScope s_reached_stages) := ⟨rfl, rfl, rfl, by decide +kernel, rfl, by decide +kernel, by decide +kernel⟩
abbrev s_least_sum : Stmt := topS 20
theorem sc_least_sum : FnScope ["choice", "known", "_", "price", "following"] ["choice", "known"] (defScope s_least_sum) := ⟨rfl, rfl, rfl, by decide +kernel, rfl, by decide +kernel, by decide +kernel⟩
abbrev s_stage_values : Stmt := topS 21
theorem sc_stage_values : FnScope ["stages", "known", "stage", "sums", "choice", "total"] ["stages"] (defScope s_stage_values) := ⟨rfl, rfl, rfl, by decide +kernel, rfl, by decide +kernel, by decide +kernel⟩
abbrev s_least_lengths : Stmt := topS 22
theorem sc_least_lengths : FnScope ["weights", "limit", "stages", "known", "order", "lengths", "stage", "depth", "m", "_", "best", "choice", "a", "symbol"] ["weights", "limit"] (defScope s_least_lengths) := ⟨rfl, rfl, rfl, by decide +kernel, rfl, by decide +kernel, by decide +kernel⟩
abbrev s_low_in : Stmt := topS 24
theorem sc_low_in : FnScope ["weights", "symbol"] ["weights", "symbol"] (defScope s_low_in) := ⟨rfl, rfl, rfl, by decide +kernel, rfl, by decide +kernel, by decide +kernel⟩
abbrev s_Counts_init : Stmt := inClass (topS 25) 0
theorem sc_Counts_init : FnScope ["self", "weights"] ["self", "weights"] (defScope s_Counts_init) := ⟨rfl, rfl, rfl, by decide +kernel, rfl, by decide +kernel, by decide +kernel⟩
abbrev s_Counts_size : Stmt := inClass (topS 25) 1
theorem sc_Counts_size : FnScope ["self"] ["self"] (defScope s_Counts_size) := ⟨rfl, rfl, rfl, by decide +kernel, rfl, by decide +kernel, by decide +kernel⟩
abbrev s_Counts_total : Stmt := inClass (topS 25) 2
theorem sc_Counts_total : FnScope ["self"] ["self"] (defScope s_Counts_total) := ⟨rfl, rfl, rfl, by decide +kernel, rfl, by decide +kernel, by decide +kernel⟩
abbrev s_Counts_low : Stmt := inClass (topS 25) 3
theorem sc_Counts_low : FnScope ["self", "symbol"] ["self", "symbol"] (defScope s_Counts_low) := ⟨rfl, rfl, rfl, by decide +kernel, rfl, by decide +kernel, by decide +kernel⟩
abbrev s_Counts_weight : Stmt := inClass (topS 25) 4
theorem sc_Counts_weight : FnScope ["self", "symbol"] ["self", "symbol"] (defScope s_Counts_weight) := ⟨rfl, rfl, rfl, by decide +kernel, rfl, by decide +kernel, by decide +kernel⟩
abbrev s_Counts_symbol_at : Stmt := inClass (topS 25) 5
theorem sc_Counts_symbol_at : FnScope ["self", "number"] ["self", "number"] (defScope s_Counts_symbol_at) := ⟨rfl, rfl, rfl, by decide +kernel, rfl, by decide +kernel, by decide +kernel⟩
abbrev s_Counts_learn : Stmt := inClass (topS 25) 6
theorem sc_Counts_learn : FnScope ["self", "symbol"] ["self", "symbol"] (defScope s_Counts_learn) := ⟨rfl, rfl, rfl, by decide +kernel, rfl, by decide +kernel, by decide +kernel⟩
abbrev s_Counts_fresh : Stmt := inClass (topS 25) 7
theorem sc_Counts_fresh : FnScope ["self"] ["self"] (defScope s_Counts_fresh) := ⟨rfl, rfl, rfl, by decide +kernel, rfl, by decide +kernel, by decide +kernel⟩
abbrev s_Learner_init : Stmt := inClass (topS 26) 0
theorem sc_Learner_init : FnScope ["self", "size", "step", "limit"] ["self", "size", "step", "limit"] (defScope s_Learner_init) := ⟨rfl, rfl, rfl, by decide +kernel, rfl, by decide +kernel, by decide +kernel⟩
abbrev s_Learner_size : Stmt := inClass (topS 26) 1
theorem sc_Learner_size : FnScope ["self"] ["self"] (defScope s_Learner_size) := ⟨rfl, rfl, rfl, by decide +kernel, rfl, by decide +kernel, by decide +kernel⟩
abbrev s_Learner_total : Stmt := inClass (topS 26) 2
theorem sc_Learner_total : FnScope ["self"] ["self"] (defScope s_Learner_total) := ⟨rfl, rfl, rfl, by decide +kernel, rfl, by decide +kernel, by decide +kernel⟩
abbrev s_Learner_low : Stmt := inClass (topS 26) 3
theorem sc_Learner_low : FnScope ["self", "symbol"] ["self", "symbol"] (defScope s_Learner_low) := ⟨rfl, rfl, rfl, by decide +kernel, rfl, by decide +kernel, by decide +kernel⟩
abbrev s_Learner_weight : Stmt := inClass (topS 26) 4
theorem sc_Learner_weight : FnScope ["self", "symbol"] ["self", "symbol"] (defScope s_Learner_weight) := ⟨rfl, rfl, rfl, by decide +kernel, rfl, by decide +kernel, by decide +kernel⟩
abbrev s_Learner_symbol_at : Stmt := inClass (topS 26) 5
theorem sc_Learner_symbol_at : FnScope ["self", "number"] ["self", "number"] (defScope s_Learner_symbol_at) := ⟨rfl, rfl, rfl, by decide +kernel, rfl, by decide +kernel, by decide +kernel⟩
abbrev s_Learner_learn : Stmt := inClass (topS 26) 6
theorem sc_Learner_learn : FnScope ["self", "symbol", "weight"] ["self", "symbol"] (defScope s_Learner_learn) := ⟨rfl, rfl, rfl, by decide +kernel, rfl, by decide +kernel, by decide +kernel⟩
abbrev s_Learner_fresh : Stmt := inClass (topS 26) 7
theorem sc_Learner_fresh : FnScope ["self"] ["self"] (defScope s_Learner_fresh) := ⟨rfl, rfl, rfl, by decide +kernel, rfl, by decide +kernel, by decide +kernel⟩
abbrev s_words : Stmt := topS 28
theorem sc_words : FnScope ["lengths", "found", "number", "depth", "order", "length", "symbol"] ["lengths"] (defScope s_words) := ⟨rfl, rfl, rfl, by decide +kernel, rfl, by decide +kernel, by decide +kernel⟩
abbrev s_write_symbols : Stmt := topS 29
theorem sc_write_symbols : FnScope ["lengths", "message", "table", "symbol", "bit"] ["lengths", "message"] (defScope s_write_symbols) := ⟨rfl, rfl, rfl, by decide +kernel, rfl, by decide +kernel, by decide +kernel⟩
abbrev s_symbol_width : Stmt := topS 36
theorem sc_symbol_width : FnScope ["size"] ["size"] (defScope s_symbol_width) := ⟨rfl, rfl, rfl, by decide +kernel, rfl, by decide +kernel, by decide +kernel⟩
abbrev s_block_counts : Stmt := topS 37
theorem sc_block_counts : FnScope ["size", "block", "counts", "symbol"] ["size", "block"] (defScope s_block_counts) := ⟨rfl, rfl, rfl, by decide +kernel, rfl, by decide +kernel, by decide +kernel⟩
abbrev s_block_lengths : Stmt := topS 38
theorem sc_block_lengths : FnScope ["counts", "occurring", "symbol", "count", "lengths", "found", "length"] ["counts"] (defScope s_block_lengths) := ⟨rfl, rfl, rfl, by decide +kernel, rfl, by decide +kernel, by decide +kernel⟩
abbrev s_model_bits : Stmt := topS 39
theorem sc_model_bits : FnScope ["model", "block", "code"] ["model", "block"] (defScope s_model_bits) := ⟨rfl, rfl, rfl, by decide +kernel, rfl, by decide +kernel, by decide +kernel⟩
abbrev s_field_body : Stmt := topS 40
theorem sc_field_body : FnScope ["size", "block", "width", "symbol", "bit"] ["size", "block"] (defScope s_field_body) := ⟨rfl, rfl, rfl, by decide +kernel, rfl, by decide +kernel, by decide +kernel⟩
abbrev s_prefix_body : Stmt := topS 41
theorem sc_prefix_body : FnScope ["size", "block", "lengths", "told", "length", "bit"] ["size", "block"] (defScope s_prefix_body) := ⟨rfl, rfl, rfl, by decide +kernel, rfl, by decide +kernel, by decide +kernel⟩
abbrev s_counts_body : Stmt := topS 42
theorem sc_counts_body : FnScope ["size", "block", "counts", "told", "count", "bit"] ["size", "block"] (defScope s_counts_body) := ⟨rfl, rfl, rfl, by decide +kernel, rfl, by decide +kernel, by decide +kernel⟩
abbrev s_learner_body : Stmt := topS 43
theorem sc_learner_body : FnScope ["size", "block"] ["size", "block"] (defScope s_learner_body) := ⟨rfl, rfl, rfl, by decide +kernel, rfl, by decide +kernel, by decide +kernel⟩
abbrev s_body : Stmt := topS 45
theorem sc_body : FnScope ["size", "block", "form", "make"] ["size", "block", "form"] (defScope s_body) := ⟨rfl, rfl, rfl, by decide +kernel, rfl, by decide +kernel, by decide +kernel⟩
abbrev s_write_block : Stmt := topS 46
theorem sc_write_block : FnScope ["size", "block", "start", "bodies", "form", "counts", "bits"] ["size", "block"] (defScope s_write_block) := ⟨rfl, rfl, rfl, by decide +kernel, rfl, by decide +kernel, by decide +kernel⟩
abbrev s_law_cell : Stmt := topS 48
theorem sc_law_cell : FnScope ["script", "k"] ["script", "k"] (defScope s_law_cell) := ⟨rfl, rfl, rfl, by decide +kernel, rfl, by decide +kernel, by decide +kernel⟩
abbrev s_law_block : Stmt := topS 49
theorem sc_law_block : FnScope ["script", "first", "most", "size", "cell", "block", "k", "one", "symbol", "j"] ["script", "first", "most", "size"] (defScope s_law_block) := ⟨rfl, rfl, rfl, by decide +kernel, rfl, by decide +kernel, by decide +kernel⟩
abbrev s_law_gamma : Stmt := topS 50
theorem sc_law_gamma : FnScope ["n", "width", "k"] ["n"] (defScope s_law_gamma) := ⟨rfl, rfl, rfl, by decide +kernel, rfl, by decide +kernel, by decide +kernel⟩
abbrev s_law_width : Stmt := topS 51
theorem sc_law_width : FnScope ["size", "width", "k"] ["size"] (defScope s_law_width) := ⟨rfl, rfl, rfl, by decide +kernel, rfl, by decide +kernel, by decide +kernel⟩
abbrev s_law_lengths : Stmt := topS 52
theorem sc_law_lengths : FnScope ["counts", "present", "k", "lengths", "count", "found"] ["counts"] (defScope s_law_lengths) := ⟨rfl, rfl, rfl, by decide +kernel, rfl, by decide +kernel, by decide +kernel⟩
abbrev s_law_body : Stmt := topS 53
theorem sc_law_body : FnScope ["size", "block", "form", "width", "bits", "symbol", "k", "counts", "one", "lengths", "length", "code", "count"] ["size", "block", "form"] (defScope s_law_body) := ⟨rfl, rfl, rfl, by decide +kernel, rfl, by decide +kernel, by decide +kernel⟩
abbrev s_law : Stmt := topS 54
theorem sc_law : FnScope ["script", "size", "block", "given", "counts", "k", "one", "best", "bodies", "form", "found"] ["script"] (defScope s_law) := ⟨rfl, rfl, rfl, by decide +kernel, rfl, by decide +kernel, by decide +kernel⟩
section
variable {P : Program} {w : World} {K : PySem.W.Frag} {mg : Str → Option Value} {base : Heap}
theorem spv_cell {H : Hp} {l : Addr} {ns : List Int} {z : Int} {j : Nat} (hs : SqL K H l (ns.map V.int)) (e : z = (j : Int)) : SpV (spCell K) ([.ref l, .int z] ++ []) H (.int (cellOf ns j)) := fun H1 e1 Q q E => ⟨l, ns, j, by rw [e]; rfl, ex_l e1 hs, q H1 (Ex.refl H1)⟩
/-! the lengths -/
def lenOf (c : Int) : Int := if c % 41 = 5 then 1 + c / 41 % 20 else if c % 7 = 3 then 0 else 1 + c % 6
def lensL (ns : List Int) (first n : Nat) : List Int := (List.range n).map fun k => lenOf (cellOf ns (first + k))
theorem lensL_succ (ns : List Int) (first n : Nat) : lensL ns first (n + 1) = lensL ns first n ++ [lenOf (cellOf ns (first + n))] := by
  unfold lensL
  rw [List.range_succ, List.map_append] <;> rfl
theorem lensL_len (ns : List Int) (first n : Nat) : (lensL ns first n).length = n := by simp [lensL]
theorem lensL_ok (ns : List Int) (first n : Nat) : Lok (lensL ns first n) := fun x hx => by
  obtain ⟨k, _, rfl⟩ := List.mem_map.mp hx
  unfold lenOf
  split
  · omega
  · split <;> omega
end
end K16P
set_option Elab.async false
set_option linter.all false
set_option maxRecDepth 100000
set_option maxHeartbeats 4000000
namespace K16P
open PySem PySem.Spec PyProof.Rows L2 StX GX KC Evl M01
section
variable {P : Program} {w : World} {K : PySem.W.Frag} {mg : Str → Option Value} {base : Heap}
/-! bits -/
theorem el_lcDown {σ : L2.St} {H : Hp} {ta : TA} {te : TE} {j : Nat} {vs : List Nat} {a b : Int} {n : Nat} (v : Nat → V) (h : EvA ta σ H [.int a, .int b, .int (-1)]) (hn : (a - b).toNat = n) (ha : -100000 ≤ a ∧ a ≤ 100000) (hb : -100000 ≤ b ∧ b ≤ 100000) (hn2 : n ≤ 40000)
    (hw : ∀ x, wipe ((wipe σ vs).set j (some x)) vs = wipe σ vs) (he : ∀ (i : Nat) H1, Ex H H1 → i < n → Ev te ((wipe σ vs).set j (some (.int (a + (i : Nat) * (-1))))) H1 (v i)) : EvL (tLc (iRng3 ta) (gName j) tYes te vs) σ H ((List.range n).map v) := fun H1 e Q q =>
  h H1 e _ fun H2 e2 => ⟨a, b, -1, n, rfl, by rw [← hn]; exact RgC.neg (by omega) (by omega) (by omega) (by omega), fun Dl hD =>
    ⟨fun i m H' => m + i = n ∧ H2 Dl = none ∧ Ex H2 H' ∧ H' Dl = some (.lst ((List.range i).map v)), ⟨n, by omega, hD, Ex.new hD, upd_same⟩, fun i m H' hW => by
      obtain ⟨hm, hD2, e3, hl⟩ := hW
      by_cases hi : i < n
      · right
        refine ⟨hi, fun H' => (m - 1) + (i + 1) = n ∧ H2 Dl = none ∧ Ex H2 H' ∧ H' Dl = some (.lst ((List.range (i + 1)).map v)), fun H' q => ⟨m - 1, by omega, q⟩, ?_⟩
        rintro x H5 ⟨rfl, rfl⟩
        refine ⟨hw _, tt_yes ?_⟩
        refine he i _ ((e.trans e2).trans e3) hi _ (Ex.refl _) _ fun H6 e6 => ?_
        refine ⟨_, e6 Dl _ hl, sz_lt (by rw [List.length_map, List.length_range]; omega), by omega, hD2, Ex.mut (e3.trans e6) hD2, ?_⟩
        rw [upd_same, List.range_succ, List.map_append]
        rfl
      · left
        have hin : i = n := by omega
        subst hin
        exact ⟨Nat.le_refl _, q Dl H' (fresh_back e2 hD2) (e2.trans e3) hl⟩⟩⟩
def spBits : Sp := fun vs H Q _ => ∃ (x l : Nat), vs = [.int (x : Int), .int (l : Int)] ∧ l ≤ 100 ∧ RetL ((bitsL x l).map V.int) H Q
theorem ok_field_bits {f : Addr} {fd : FuncData} {k : Nat} (F : Fun K "field_bits" "field_bits" s_field_bits f fd) (B : Bs mg) : FnOk P w K mg base CX0 (k + 1) f fd ["number", "width"] spBits := by
  refine F.ok sc_field_bits (fun vs H Q E h => ?_) (fun cdv A outer s H vs Q E hr h => ?_)
  · obtain ⟨x, l, rfl, _⟩ := h
    rfl
  · obtain ⟨x, l, rfl, hl, q⟩ := h
    refine ⟨_, (pss_one (ps_ret (pe_lc rfl sc_field_bits.nd (pi_range3 (by rfl) B.range (pa_cons (pe_op op_sub (pv 1) pe_int) (pa_cons (pe_un un_neg pe_int) (pa_cons (pe_un un_neg pe_int) pa_nil)))) (blkOk_by (own := [("at", 2)]) (N := ["number", "width", "at"]) (sc := defScope s_field_bits) (by decide +kernel)) (fun _ _ _ _ _ => (pg_name (i := 2) sc_field_bits.nd rfl (Or.inl rfl))) (fun _ _ _ _ _ => pts_nil) (fun _ _ _ _ _ => (pe_op op_and (pe_op op_shr (pv 0) (pv 2)) pe_int))))), ?_⟩
    refine s_retL ?_ q
    have e : (bitsL x l).map V.int = (List.range l).map fun j => V.int ((x / 2 ^ (l - 1 - j) % 2 : Nat) : Int) := by
      unfold bitsL
      rw [List.map_map]
      rfl
    rw [e]
    refine el_lcDown (a := (l : Int) - 1) (b := -1) _ (ea3 (ev_sub (ev_var rfl) ev_c) (ev_un (x := .int 1) ev_c ru_neg) (ev_un (x := .int 1) ev_c ru_neg)) (by omega) (by omega) (by omega) (by omega) (fun x => rfl) fun i H1 e1 hi => ?_
    have ei : (l : Int) - 1 + (i : Nat) * (-1) = ((l - 1 - i : Nat) : Int) := by omega
    rw [ei]
    refine ev_is (ev_op (ev_op (ev_var (v := .int (x : Int)) rfl) (ev_var (v := .int ((l - 1 - i : Nat) : Int)) rfl) (rv_shr (by omega))) ev_c rv_I0) ?_
    rw [bitAnd_m1, Int.toNat_natCast]
    congr 1
/-! the law's room -/
theorem kraft_take {ls : List Int} {i : Nat} (h : i < ls.length) : kraft (ls.take (i + 1)) = kraft (ls.take i) + share (ls.getD i 0) := by
  have hxi : ls.getD i 0 = ls[i] := by rw [List.getD_eq_getElem?_getD, List.getElem?_eq_getElem h] <;> rfl
  have htk : ls.take (i + 1) = ls.take i ++ [ls.getD i 0] := by rw [hxi]; exact (List.take_append_getElem h).symm
  rw [htk, kraft_app]
  congr 1
  show share _ + 0 = _
  rw [Int.add_zero]
theorem pos20 {x : Int} (h : 0 ≤ x ∧ x ≤ 20) : 0 < (1 : Int) * 2 ^ x.toNat ∧ (1 : Int) * 2 ^ x.toNat < 1073741824 := by
  have : ∀ y : Fin 21, (0 : Int) < 1 * 2 ^ y.val ∧ (1 : Int) * 2 ^ y.val < 1073741824 := by decide
  exact this ⟨x.toNat, by omega⟩
theorem share_div {x : Int} (h : 0 ≤ x ∧ x ≤ 20) (h0 : 0 < x) : (1048576 : Int) / (1 * 2 ^ x.toNat) = share x := by
  rw [pow20 x.toNat (by omega)]
  unfold share
  rw [if_neg (by omega)]
/-- 1048576 // (1 << x) -/
theorem ev_share {σ : L2.St} {H : Hp} {ta tb tc : TE} {x : Int} (h1 : Ev ta σ H (.int 1048576)) (h2 : Ev tb σ H (.int 1)) (h3 : Ev tc σ H (.int x)) (h : 0 ≤ x ∧ x ≤ 20) (h0 : 0 < x) : Ev (tOp (rI CDiv fun i j => .int (i / j)) ta (tOp (rI CPow fun i j => .int (i * 2 ^ j.toNat)) tb tc)) σ H (.int (share x)) :=
  ev_is (ev_op h1 (ev_op h2 h3 (rv_shl ⟨by omega, by omega, by decide⟩)) (rv_div (pos20 h).1 (pos20 h).2)) (by rw [share_div h h0])
/-! the lengths are made to fit -/
structure Fit (fs : List Int) (n : Nat) : Prop where
  len : fs.length = n
  ok : Lok fs
  kr : kraft fs ≤ 1048576
  pos : ∃ x ∈ fs, 0 < x
theorem kraft_one (x : Int) : kraft [x] = share x := by
  show share x + 0 = _
  rw [Int.add_zero]
end
end K16P
set_option Elab.async false
set_option linter.all false
set_option maxRecDepth 100000
set_option maxHeartbeats 4000000
namespace K16P
open PySem PySem.Spec PyProof.Rows L2 StX GX KC Evl M01
/-! ### tables of words -/
def InV (p : Addr) (H0 H : Hp) (v : V) : Option (List Int) → Prop
  | none => v = .non
  | some bs => ∃ r : Addr, v = .ref r ∧ r ≠ p ∧ H0 r = none ∧ H r = some (.lst (bs.map V.int))
def TabF (p : Addr) (H0 H : Hp) (vs : List V) (tab : List (Option (List Int))) : Prop := vs.length = tab.length ∧ ∀ (k : Nat) v o, vs[k]? = some v → tab[k]? = some o → InV p H0 H v o
theorem InV.ext {p : Addr} {H0 H H' : Hp} {v : V} {o : Option (List Int)} (e : Ex H H') (h : InV p H0 H v o) : InV p H0 H' v o := by
  cases o with
  | none => exact h
  | some bs =>
    obtain ⟨r, h1, h2, h3, h4⟩ := h
    exact ⟨r, h1, h2, h3, e r _ h4⟩
theorem InV.put {p : Addr} {H0 H : Hp} {v : V} {o : Option (List Int)} {ws : List V} (h : InV p H0 H v o) : InV p H0 (upd H p (.lst ws)) v o := by
  cases o with
  | none => exact h
  | some bs =>
    obtain ⟨r, h1, h2, h3, h4⟩ := h
    exact ⟨r, h1, h2, h3, by rw [upd_ne h2]; exact h4⟩
theorem TabF.ext {p : Addr} {H0 H H' : Hp} {vs : List V} {tab : List (Option (List Int))} (e : Ex H H') (h : TabF p H0 H vs tab) : TabF p H0 H' vs tab := ⟨h.1, fun k v o h1 h2 => (h.2 k v o h1 h2).ext e⟩
theorem TabF.none {p : Addr} {H0 H : Hp} (n : Nat) : TabF p H0 H (List.replicate n .non) (List.replicate n none) := ⟨by rw [List.length_replicate, List.length_replicate], fun k v o h1 h2 => by
  have e1 := List.eq_of_mem_replicate (List.mem_of_getElem? h1)
  have e2 := List.eq_of_mem_replicate (List.mem_of_getElem? h2)
  subst e1 e2
  rfl⟩
/-- a word is put into the table -/
theorem TabF.set {ls : List Int} {p r : Addr} {H0 H : Hp} {vs : List V} {o : List Nat} {s : Nat} (h : TabF p H0 H vs (tabOf ls o)) (hs : s ∉ o) (hr : r ≠ p) (h0 : H0 r = Option.none) (hl : H r = some (.lst ((wd ls o s).map V.int))) : TabF p H0 (upd H p (.lst (vs.set s (.ref r)))) (vs.set s (.ref r)) (tabOf ls (o ++ [s])) := by
  refine ⟨by rw [List.length_set, h.1, tab_len, tab_len], fun k v ob h1 h2 => ?_⟩
  have hk : k < ls.length := by
    have := (List.getElem?_eq_some_iff.mp h2).1
    rwa [tab_len] at this
  rw [tab_at hk, ent_add hs] at h2
  by_cases e : k = s
  · subst e
    rw [if_pos rfl] at h2
    have e2 := Option.some.inj h2
    subst e2
    rw [List.getElem?_set_self (by have := h.1; rw [tab_len] at this; omega)] at h1
    exact ⟨r, (Option.some.inj h1).symm, hr, h0, by rw [upd_ne hr]; exact hl⟩
  · rw [if_neg e] at h2
    rw [List.getElem?_set_ne (fun z => e z.symm)] at h1
    exact (h.2 k v ob h1 (by rw [tab_at hk]; exact h2)).put
def RetW (tab : List (Option (List Int))) (H : Hp) (Q : VK) : Prop := ∀ p vs H2, H p = none → Ex H H2 → H2 p = some (.lst vs) → TabF p H H2 vs tab → Q (.ref p) H2
/-! ### numbers -/
theorem xs_le2 {ls : List Int} {o : List Nat} (hl : Lok ls) (pw : o.Pairwise (Lx ls)) (hm : ∀ s ∈ o, s < ls.length ∧ 0 < lnA ls s) : (xs ls o : Int) ≤ kraft ls := by
  rw [← kraft_sum ls fun x hx => (hl x hx).1]
  have hnd : o.Nodup := pw.imp fun {a b} h e => by subst e; exact h.irrefl
  have h1 := nodup_sum (fun k => if lnA ls k = 0 then 0 else 2 ^ (20 - lnA ls k)) o (List.range ls.length) hnd fun x hx => List.mem_range.mpr (hm x hx).1
  have h2 : (o.map fun k => if lnA ls k = 0 then 0 else 2 ^ (20 - lnA ls k)) = o.map fun s => 2 ^ (20 - lnA ls s) := by
    refine List.map_congr_left fun k hk => ?_
    have := (hm k hk).2
    rw [if_neg (by omega)]
  rw [h2] at h1
  unfold xs
  exact_mod_cast h1
/-- the number ahead of a word -/
structure Num (ls : List Int) (o : List Nat) (num dep : Nat) : Prop where
  eq : num * 2 ^ (20 - dep) = xs ls o
  dp : dep ≤ 20
theorem Num.le {ls : List Int} {o : List Nat} {num dep : Nat} (h : Num ls o num dep) : num ≤ xs ls o := by
  rw [← h.eq]
  exact Nat.le_mul_of_pos_right _ (Nat.pow_pos (by decide))
theorem Num.up {ls : List Int} {o : List Nat} {num dep L : Nat} (h : Num ls o num dep) (hd : dep ≤ L) (hL : L ≤ 20) : Num ls o (num * 2 ^ (L - dep)) L := by
  refine ⟨?_, hL⟩
  rw [Nat.mul_assoc, ← Nat.pow_add, ← h.eq]
  congr 2
  omega
theorem Num.wd {ls : List Int} {o : List Nat} {num L s : Nat} (h : Num ls o num L) (hL : lnA ls s = L) : wd ls o s = bitsL num L := by
  unfold M01.wd
  rw [hL, ← h.eq, Nat.mul_div_cancel _ (Nat.pow_pos (by decide))]
theorem Num.add {ls : List Int} {o : List Nat} {num L s : Nat} (h : Num ls o num L) (hL : lnA ls s = L) : Num ls (o ++ [s]) (num + 1) L := by
  refine ⟨?_, h.dp⟩
  rw [xs_snoc, ← h.eq, hL, Nat.add_mul, Nat.one_mul]
theorem nat_bd {n : Nat} (h : n ≤ 1048576) : ((n : Int)).natAbs < 2 ^ 64 := by
  rw [Int.natAbs_natCast]
  have : (1048576 : Nat) < 2 ^ 64 := by decide
  omega
theorem ln_of {ls : List Int} (h : Lok ls) {k : Nat} (hk : k < ls.length) : ls.getD k 0 = (lnA ls k : Int) := by
  have hb := h _ (List.getElem_mem hk)
  unfold lnA
  rw [List.getD_eq_getElem?_getD, List.getElem?_eq_getElem hk]
  show ls[k] = ((ls[k]).toNat : Int)
  omega
section
variable {P : Program} {w : World} {K : PySem.W.Frag} {mg : Str → Option Value} {base : Heap}
def spWords (K : PySem.W.Frag) (Pt : Addr) : Sp := fun vs H Q _ => ∃ (l : Addr) (ls : List Int) (o : List Nat), vs = [.ref l] ∧ SqL K H l (ls.map V.int) ∧ Lok ls ∧ ls.length ≤ 100 ∧ kraft ls ≤ 1048576 ∧ H Pt = some (TabX Pt) ∧ IsOrd ls o ∧ RetW (tabOf ls o) H Q
theorem ok_words {f c Pt : Addr} {fd : FuncData} {k : Nat} (F : FunT K "words" "words" s_words f fd c) (TB : GxR.TabB base mg c Pt) (B : Bs mg) (C_field_bits : Cal P w K mg base "field_bits" 1 ["number", "width"] spBits) : FnOk P w K mg base CX0 (k + 7) f fd ["lengths"] (spWords K Pt) := by
  refine F.ok sc_words (fun vs H Q E h => ?_) (fun A outer s H vs Q E hr h => ?_)
  · obtain ⟨l, ls, o, rfl, _⟩ := h
    rfl
  · obtain ⟨l, ls, o, rfl, hs, hok, hn, hkr, htab, hord, q⟩ := h
    refine ⟨_, (pss_cons (ps_set (i := 1) sc_words.nd rfl (Or.inl rfl) (pe_op op_rep (pe_lst (pa_cons pe_non pa_nil)) (pe_callB call_len_seq (by rfl) B.len PySem.boot_len (pa_cons (pv 0) pa_nil))))
      (pss_cons (ps_set (i := 2) sc_words.nd rfl (Or.inl rfl) pe_int)
      (pss_cons (ps_set (i := 3) sc_words.nd rfl (Or.inl rfl) pe_int)
      (pss_cons (ps_set (i := 4) sc_words.nd rfl (Or.inl rfl) (pe_sortedG (k := 0) (pgx_gen (g := (gTup K 2 (gCons (gName 0) (gCons (gName 1) gNil)))) (N' := ["symbol", "length"]) (cm := [none, none]) (own := [0, 1]) (k0 := 0) (k := 0) (hr.mono (by omega)) TB rfl (capOk_by (N := ["lengths", "found", "number", "depth", "order", "length", "symbol"]) (sc := defScope s_words) (by decide +kernel)) (pi_enum (by rfl) B.enumerate (pa_cons (pv 0) pa_nil)) (fun _ _ _ _ _ _ _ _ hr => (pg_tup rfl (pgs_cons (pg_name (i := 0) (show List.Nodup (["symbol", "length"] : List Str) by decide +kernel) rfl (Or.inl rfl)) (pgs_cons (pg_name (i := 1) (show List.Nodup (["symbol", "length"] : List Str) by decide +kernel) rfl (Or.inl rfl)) pgs_nil)))) (fun _ _ _ _ _ _ _ _ hr => (pts_one (pt_cmpR op_gt (pv 1) pe_int (nomark _)))) (fun _ _ _ _ _ _ _ _ hr => (pe_tup (pa_cons (pv 1) (pa_cons (pv 0) pa_nil))))) (fun _ => mt_sortPO) (hr.mono (by omega)) (by rfl) B.sorted))
      (pss_cons (ps_for PassesOwn.never rfl (pi_list (pv 4)) (pg_tup rfl (pgs_cons (pg_name (i := 5) sc_words.nd rfl (Or.inl rfl)) (pgs_cons (pg_name (i := 6) sc_words.nd rfl (Or.inl rfl)) pgs_nil))) (pss_cons (ps_set (i := 2) sc_words.nd rfl (Or.inl rfl) (pe_op op_shl (pv 2) (pe_op op_sub (pv 5) (pv 3))))
      (pss_cons (ps_set (i := 3) sc_words.nd rfl (Or.inl rfl) (pv 5))
      (pss_cons (ps_asg (pe_callC C_field_bits (hr.mono (by omega)) (by rfl) (pa_cons (pv 2) (pa_cons (pv 5) pa_nil))) (pg_sub (pv 1) (pv 6) set_list))
      (pss_one (ps_aug (i := 2) sc_words.nd rfl (Or.inl rfl) pe_int ip_add))))))
      (pss_one (ps_ret (pv 1)))))))), ?_⟩
    have hxl : (ls.map V.int).length = ls.length := List.length_map _
    refine q_asgL (el_rep (el_lst (ea1 ev_c) (by decide)) (ev_len (ev_var rfl) hs) ⟨by omega, by omega⟩ (by decide)) fun p H1 hp e1 h1 => ?_
    rw [flat_rep, hxl, Int.toNat_natCast] at h1
    refine q_asg ev_c fun H2 e2 => ?_
    refine q_asg ev_c fun H3 e3 => ?_
    have e03 := (e1.trans e2).trans e3
    have hp3 := (e2.trans e3) p _ h1
    have hs3 := ex_l e03 hs
    -- the order
    refine ⟨_, rfl, l, _, rfl, hs3, e03 Pt _ htab, fun i m zs H' => m + i = ls.length ∧ Ex H3 H' ∧ PrG (fun s => ls.getD s 0) H' zs ((List.range i).filter fun s => decide (0 < ls.getD s 0)), ⟨ls.length, by omega, Ex.refl _, PrG.nil⟩, ?_⟩
    rintro i m zs H' ⟨hm, e4, hpr⟩
    by_cases hi : i < ls.length
    · right
      refine ⟨⟨_, _, ex_l e4 hs3, int_at hi⟩, fun zs H5 => (m - 1) + (i + 1) = ls.length ∧ Ex H3 H5 ∧ PrG (fun s => ls.getD s 0) H5 zs ((List.range (i + 1)).filter fun s => decide (0 < ls.getD s 0)), fun zs H5 q => ⟨m - 1, by omega, q⟩, ?_⟩
      rintro v H5 ⟨T, x, rfl, hT, rfl, hx1⟩
      have ex1 := (Option.some.inj ((int_at hi).symm.trans (hx1 _ (ex_l e4 hs3)))).symm
      subst ex1
      have e45 : Ex H' (upd H' T (.tup [.int (i : Int), .int (ls.getD i 0)])) := Ex.new hT
      refine ⟨T, _, rfl, .inl (.inl upd_same), rfl, _, _, rfl, _, _, rfl, rfl, rfl, ?_⟩
      refine (et_test (ev_op (ev_var (i := 1) (v := .int (ls.getD i 0)) rfl) (ev_c (v := .int 0)) rv_I0) : EvT _ [some (.int (i : Int)), some (.int (ls.getD i 0))] _ _) _ (Ex.refl _) _ fun H6 e6 => ?_
      have e46 := e45.trans e6
      cases hb : decide (0 < ls.getD i 0) with
      | false =>
        rw [if_neg Bool.false_ne_true]
        refine ⟨by omega, e4.trans e46, ?_⟩
        rw [List.range_succ, List.filter_append, List.filter_cons, if_neg (by rw [hb]; exact Bool.false_ne_true), List.filter_nil, List.append_nil]
        exact hpr.ext e46
      | true =>
        rw [if_pos rfl]
        refine (eu_tup (σ := [some (.int (i : Int)), some (.int (ls.getD i 0))]) (ea2 (ev_var (i := 1) (v := .int (ls.getD i 0)) rfl) (ev_var (i := 0) (v := .int (i : Int)) rfl)) (by show 2 ≤ 100000; decide)) _ (Ex.refl _) _ fun t H7 ht e7 h7 => ?_
        have e47 := e46.trans e7
        have hzl : zs.length < 100000 := by
          rw [hpr.1]
          have := List.length_filter_le (fun s => decide (0 < ls.getD s 0)) (List.range i)
          rw [List.length_range] at this
          omega
        refine ⟨sz_lt hzl, trivial, by omega, e4.trans e47, ?_⟩
        rw [List.range_succ, List.filter_append, List.filter_cons, if_pos hb, List.filter_nil]
        exact (hpr.ext e47).add h7
    · left
      have hin : i = ls.length := by omega
      subst hin
      refine ⟨⟨_, ex_l e4 hs3, by rw [hxl]; exact Nat.le_refl _⟩, ?_⟩
      refine tSort_use hpr (List.Nodup.sublist (List.filter_sublist) List.nodup_range) fun po zs o' hpo hpr2 hperm hpw => ?_
      have hpop : po ≠ p := fun z => by
        have := e4 p _ hp3
        rw [← z, hpo] at this
        cases this
      -- it is the order
      have hmem : ∀ s, s ∈ o' ↔ s < ls.length ∧ 0 < lnA ls s := fun s => by
        rw [hperm.mem_iff, List.mem_filter, List.mem_range]
        constructor
        · rintro ⟨a, b⟩
          refine ⟨a, ?_⟩
          have b' : 0 < ls.getD s 0 := of_decide_eq_true b
          rw [ln_of hok a] at b'
          omega
        · rintro ⟨a, b⟩
          refine ⟨a, decide_eq_true ?_⟩
          rw [ln_of hok a]
          omega
      have hord' : IsOrd ls o' := ⟨List.Pairwise.imp_of_mem (fun {a b} ha hb h => by
        have ha' := (hmem a).mp ha
        have hb' := (hmem b).mp hb
        simp only [ln_of hok ha'.1, ln_of hok hb'.1] at h
        unfold Lx
        omega) hpw, hmem⟩
      have eo := hord'.uniq hord
      subst eo
      have hpoL : (upd H' po (.lst zs)) po = some (.lst zs) := upd_same
      have e0S : Ex H (upd H' po (.lst zs)) := (e03.trans e4).trans (Ex.new hpo)
      have hpS : (upd H' po (.lst zs)) p = some (.lst (List.replicate ls.length .non)) := by
        rw [upd_ne (fun z => hpop z.symm)]
        exact e4 p _ hp3
      generalize hHS : upd H' po (.lst zs) = HS at *
      have hzo : zs.length = o'.length := hpr2.1
      show tSeq _ _ _ _ _
      refine q_forL (ev_var rfl) (sq_of hpoL)
        (fun i σ H9 => ∃ (num dep : Nat) (vs : List V) (a b : Option V), σ = [some (.ref l), some (.ref p), some (.int (num : Int)), some (.int (dep : Int)), some (.ref po), a, b] ∧ Ex H H9 ∧ H9 po = some (.lst zs) ∧ PrG (fun s => ls.getD s 0) H9 zs o' ∧ H9 p = some (.lst vs) ∧ TabF p H H9 vs (tabOf ls (o'.take i)) ∧ Num ls (o'.take i) num dep ∧ ∀ s ∈ o'.drop i, dep ≤ lnA ls s)
        (fun H9 e9 => ⟨0, 0, _, none, none, rfl, e0S.trans e9, e9 po _ hpoL, hpr2.ext e9, e9 p _ hpS, by rw [List.take_zero, tab_nil]; exact TabF.none _, ⟨by simp [xs], by omega⟩, fun s _ => Nat.zero_le _⟩)
        (fun i σ H9 _ hP => by
          obtain ⟨num, dep, vs, a, b, _, _, hz, _⟩ := hP
          exact sq_of hz) ?_ ?_
      · rintro i x σ H9 hi9 ⟨num, dep, vs, a, b, rfl, eh, hz9, hpr9, hp9, htf, hnum, hdr⟩
        have hil : i < o'.length := by rw [← hzo]; exact (List.getElem?_eq_some_iff.mp hi9).1
        obtain ⟨t, ht1, ht2⟩ := hpr9.2 i _ (List.getElem?_eq_getElem hil)
        rw [hi9] at ht1
        have ex9 := Option.some.inj ht1
        subst ex9
        generalize hso : o'[i] = so at *
        have hsm : so ∈ o' := by rw [← hso]; exact List.getElem_mem hil
        obtain ⟨hsl, hspos⟩ := (hmem so).mp hsm
        simp only [ln_of hok hsl] at ht2
        have hL20 := ln_le hok so
        have htk : o'.take (i + 1) = o'.take i ++ [so] := by rw [← hso]; exact (List.take_append_getElem hil).symm
        have hdep : dep ≤ lnA ls so := hdr so (by rw [List.drop_eq_getElem_cons hil, hso]; exact List.mem_cons_self)
        generalize hLe : lnA ls so = L at *
        refine ⟨t, _, rfl, .inl (.inl ht2), rfl, _, _, rfl, _, _, rfl, rfl, ?_⟩
        have hxk : xs ls (o'.take i) ≤ 1048576 := by
          have h1 := xs_le hok hord'
          have h2 : xs ls o' = xs ls (o'.take i) + xs ls (o'.drop i) := by rw [← xs_app, List.take_append_drop]
          omega
        have hn1 := hnum.up hdep hL20
        have hn1b := Nat.le_trans hn1.le hxk
        refine q_asg (v := .int ((num * 2 ^ (L - dep) : Nat) : Int)) (ev_is (ev_op (ev_var rfl) (ev_sub (i := (L : Int)) (j := (dep : Int)) (ev_var rfl) (ev_var rfl)) (rv_shl ⟨by omega, by omega, nat_bd (Nat.le_trans hnum.le hxk)⟩)) ?_) fun H10 e10 => ?_
        · congr 1
          have : ((L : Int) - (dep : Int)).toNat = L - dep := by omega
          rw [this, Int.natCast_mul, Int.natCast_pow]
          rfl
        refine q_asg (v := .int (L : Int)) (ev_var rfl) fun H11 e11 => ?_
        have e911 := e10.trans e11
        refine q_setLL (j := so) (e911 p _ hp9) (el_call (ea2 (ev_var rfl) (ev_var rfl)) fun H1 e1 Q q E => ⟨num * 2 ^ (L - dep), L, rfl, by omega, fun p H2 hp e2 h2 => q p H2 hp e2 h2⟩) (ev_var rfl) (ev_var rfl) (by have := htf.1; rw [tab_len] at this; omega) fun r H12 hr e12 h12 => ?_
        have e912 := e911.trans e12
        have hrp : r ≠ p := fun z => by
          have := e911 p _ hp9
          rw [← z, hr] at this
          cases this
        have hr0 : H r = none := fresh_back (eh.trans e911) hr
        refine s_aug (a := ((num * 2 ^ (L - dep) : Nat) : Int)) (b := 1) rfl ev_c fun H13 e13 => ?_
        have hso2 : so ∉ o'.take i := fun z => by
          have h1 := hord'.nodup
          rw [← List.take_append_drop i o', List.nodup_append] at h1
          exact h1.2.2 so z so (by rw [List.drop_eq_getElem_cons hil, hso]; exact List.mem_cons_self) rfl
        have hput : Ex H (upd H12 p (.lst (vs.set so (.ref r)))) := Ex.mut (eh.trans e912) hp
        refine ⟨num * 2 ^ (L - dep) + 1, L, vs.set so (.ref r), _, _, rfl, hput.trans e13, e13 po _ (by rw [upd_ne hpop]; exact e912 po _ hz9), ((hpr9.ext e912).put (e912 p _ hp9)).ext e13, e13 p _ upd_same, ?_, ?_, fun s hs2 => ?_⟩
        · rw [htk]
          refine ((htf.ext e912).set hso2 hrp hr0 ?_).ext e13
          rw [h12, hn1.wd hLe]
        · rw [htk]
          exact hn1.add hLe
        · have h1 := hord'.pw
          rw [← List.take_append_drop i o', List.drop_eq_getElem_cons hil, hso] at h1
          have h2 := (List.pairwise_cons.mp (List.pairwise_append.mp h1).2.1).1 s hs2
          unfold Lx at h2
          omega
      · rintro σ H9 ⟨num, dep, vs, a, b, rfl, eh, hz9, hpr9, hp9, htf, hnum, hdr⟩
        rw [hzo, List.take_length] at htf
        exact s_ret (ev_var rfl) fun H10 e10 => q p vs H10 hp (eh.trans e10) (e10 p _ hp9) (htf.ext e10)
end
end K16P
set_option linter.all false
/-! Reading words of a prefix code: nodes of a tree, a plain scan. -/
namespace M02
def Bit (p : List Int) : Prop := ∀ b ∈ p, b = 0 ∨ b = 1
def node (p : List Int) : Int := p.foldl (fun n b => 2 * n + b) 1
theorem node_snoc (p : List Int) (b : Int) : node (p ++ [b]) = 2 * node p + b := by
  unfold node
  rw [List.foldl_append]
  rfl
theorem snoc_of {p : List Int} (h : p ≠ []) : ∃ q b, p = q ++ [b] := ⟨p.dropLast, p.getLast h, (List.dropLast_concat_getLast h).symm⟩
theorem Bit.left {p q : List Int} (h : Bit (p ++ q)) : Bit p := fun b hb => h b (List.mem_append_left _ hb)
theorem Bit.last {p : List Int} {b : Int} (h : Bit (p ++ [b])) : b = 0 ∨ b = 1 := h b (List.mem_append_right _ (List.mem_singleton.mpr rfl))
theorem Bit.take {p : List Int} (h : Bit p) (n : Nat) : Bit (p.take n) := fun b hb => h b (List.mem_of_mem_take hb)
theorem Bit.drop {p : List Int} (h : Bit p) (n : Nat) : Bit (p.drop n) := fun b hb => h b (List.mem_of_mem_drop hb)
theorem node_pos : ∀ (n : Nat) (p : List Int), p.length = n → Bit p → 1 ≤ node p
  | 0, p, h, _ => by
    have : p = [] := List.length_eq_zero_iff.mp h
    subst this
    decide
  | n + 1, p, h, hb => by
    obtain ⟨q, b, rfl⟩ := snoc_of (p := p) (fun z => by rw [z] at h; simp at h)
    have h1 := node_pos n q (by simpa using h) hb.left
    have h2 := hb.last
    rw [node_snoc]
    omega
theorem node_inj : ∀ (n : Nat) (p q : List Int), p.length = n → Bit p → Bit q → node p = node q → p = q
  | 0, p, q, h, hp, hq, e => by
    have : p = [] := List.length_eq_zero_iff.mp h
    subst this
    by_cases z : q = []
    · exact z.symm
    · obtain ⟨q1, b, rfl⟩ := snoc_of z
      have h1 := node_pos _ q1 rfl hq.left
      have h2 := hq.last
      rw [node_snoc] at e
      have e1 : node [] = 1 := rfl
      omega
  | n + 1, p, q, h, hp, hq, e => by
    obtain ⟨p1, b, rfl⟩ := snoc_of (p := p) (fun z => by rw [z] at h; simp at h)
    have hp1 := node_pos _ p1 rfl hp.left
    have hb := hp.last
    by_cases z : q = []
    · subst z
      rw [node_snoc] at e
      have e1 : node [] = 1 := rfl
      omega
    · obtain ⟨q1, c, rfl⟩ := snoc_of z
      have hc := hq.last
      rw [node_snoc, node_snoc] at e
      have e1 : b = c := by omega
      have e2 : node p1 = node q1 := by omega
      rw [node_inj n p1 q1 (by simpa using h) hp.left hq.left e2, e1]
abbrev Tab := List (Option (List Int))
/-- the table of a prefix code -/
structure Wds (tab : Tab) : Prop where
  bit : ∀ (k : Nat) w, tab[k]? = some (some w) → Bit w
  ne : ∀ (k : Nat) w, tab[k]? = some (some w) → w ≠ []
  free : ∀ (a b : Nat) wa wb, a ≠ b → tab[a]? = some (some wa) → tab[b]? = some (some wb) → ¬ wa <+: wb
/-- what the tree says of the node of p, when the first n symbols are in -/
structure Tm (tab : Tab) (n : Nat) (m : Int → Option (Option Nat)) : Prop where
  word : ∀ (k : Nat) p, k < n → tab[k]? = some (some p) → m (node p) = some (some k)
  inner : ∀ p, Bit p → (p = [] ∨ ∃ (k : Nat) (w : List Int), k < n ∧ tab[k]? = some (some w) ∧ p <+: w ∧ p ≠ w) → m (node p) = some none
  out : ∀ p, Bit p → p ≠ [] → (∀ (k : Nat) w, k < n → tab[k]? = some (some w) → ¬ p <+: w) → m (node p) = none
theorem Tm.zero (tab : Tab) : Tm tab 0 fun x => if x = 1 then some none else none := by
  refine ⟨fun k p h => absurd h (Nat.not_lt_zero k), fun p hp h => ?_, fun p hp hn h => ?_⟩
  · rcases h with rfl | ⟨k, w, hk, _⟩
    · rfl
    · exact absurd hk (Nat.not_lt_zero k)
  · rw [if_neg]
    intro z
    exact hn (node_inj _ p [] rfl hp (fun b hb => absurd hb List.not_mem_nil) (z.trans rfl))
theorem Tm.skip {tab : Tab} {n : Nat} {m : Int → Option (Option Nat)} (h : Tm tab n m) (e : tab[n]? = some none) : Tm tab (n + 1) m := by
  refine ⟨fun k p hk hw => ?_, fun p hp hh => ?_, fun p hp hn hh => h.out p hp hn fun k w hk hw => hh k w (by omega) hw⟩
  · by_cases z : k = n
    · subst z; rw [e] at hw; cases hw
    · exact h.word k p (by omega) hw
  · refine h.inner p hp ?_
    rcases hh with hh | ⟨k, w, hk, hw, h1, h2⟩
    · exact .inl hh
    · by_cases z : k = n
      · subst z; rw [e] at hw; cases hw
      · exact .inr ⟨k, w, by omega, hw, h1, h2⟩
/-- while the word w of symbol n goes in: its first j bits have their nodes -/
structure Tj (tab : Tab) (n : Nat) (w : List Int) (j : Nat) (m : Int → Option (Option Nat)) : Prop where
  word : ∀ (k : Nat) p, k < n → tab[k]? = some (some p) → m (node p) = some (some k)
  inner : ∀ p, Bit p → (p = [] ∨ (∃ (k : Nat) (v : List Int), k < n ∧ tab[k]? = some (some v) ∧ p <+: v ∧ p ≠ v) ∨ (p <+: w ∧ p.length ≤ j)) → m (node p) = some none
  out : ∀ p, Bit p → p ≠ [] → (∀ (k : Nat) v, k < n → tab[k]? = some (some v) → ¬ p <+: v) → ¬ (p <+: w ∧ p.length ≤ j) → m (node p) = none
theorem Tj.zero {tab : Tab} {n : Nat} {m : Int → Option (Option Nat)} {w : List Int} (h : Tm tab n m) : Tj tab n w 0 m := by
  refine ⟨h.word, fun p hp hh => h.inner p hp ?_, fun p hp hn hh _ => h.out p hp hn hh⟩
  rcases hh with hh | hh | ⟨_, hh⟩
  · exact .inl hh
  · exact .inr hh
  · exact .inl (List.length_eq_zero_iff.mp (by omega))
def put (m : Int → Option (Option Nat)) (x : Int) (v : Option Nat) : Int → Option (Option Nat) := fun y => if y = x then some v else m y
theorem pre_take {p w : List Int} (h : p <+: w) : p = w.take p.length := (List.prefix_iff_eq_take.mp h)
theorem Tj.step {tab : Tab} {n : Nat} {m : Int → Option (Option Nat)} {w : List Int} {j : Nat} (W : Wds tab) (hw : tab[n]? = some (some w)) (h : Tj tab n w j m) (hj : j < w.length) : Tj tab n w (j + 1) (put m (node (w.take (j + 1))) none) := by
  have hbw := W.bit n w hw
  have hbt := hbw.take (j + 1)
  have same : ∀ p, Bit p → node p = node (w.take (j + 1)) → p = w.take (j + 1) := fun p hp e => node_inj _ p _ rfl hp hbt e
  have lt : (w.take (j + 1)).length = j + 1 := by rw [List.length_take]; omega
  refine ⟨fun k p hk hp => ?_, fun p hp hh => ?_, fun p hp hn hh hh2 => ?_⟩
  · unfold put
    rw [if_neg]
    · exact h.word k p hk hp
    · intro z
      have e := same p (W.bit k p hp) z
      exact W.free k n p w (by omega) hp hw (by rw [e]; exact List.take_prefix _ _)
  · unfold put
    by_cases z : node p = node (w.take (j + 1))
    · rw [if_pos z]
    · rw [if_neg z]
      refine h.inner p hp ?_
      rcases hh with hh | hh | ⟨h1, h2⟩
      · exact .inl hh
      · exact .inr (.inl hh)
      · refine .inr (.inr ⟨h1, ?_⟩)
        by_cases q : p.length = j + 1
        · exact absurd (by rw [pre_take h1, q]) z
        · omega
  · unfold put
    rw [if_neg]
    · exact h.out p hp hn hh fun z => hh2 ⟨z.1, by omega⟩
    · intro z
      have e := same p hp z
      exact hh2 ⟨by rw [e]; exact List.take_prefix _ _, by rw [e, lt]; omega⟩
theorem Tj.done {tab : Tab} {n : Nat} {m : Int → Option (Option Nat)} {w : List Int} (W : Wds tab) (hw : tab[n]? = some (some w)) (h : Tj tab n w w.length m) : Tm tab (n + 1) (put m (node w) (some n)) := by
  have hbw := W.bit n w hw
  have same : ∀ p, Bit p → node p = node w → p = w := fun p hp e => node_inj _ p _ rfl hp hbw e
  refine ⟨fun k p hk hp => ?_, fun p hp hh => ?_, fun p hp hn hh => ?_⟩
  · unfold put
    by_cases z : k = n
    · subst z
      rw [hw] at hp
      have : w = p := by simpa using hp
      rw [this, if_pos rfl]
    · rw [if_neg]
      · exact h.word k p (by omega) hp
      · intro q
        have e := same p (W.bit k p hp) q
        subst e
        exact W.free k n p p z hp hw (List.prefix_refl _)
  · unfold put
    rw [if_neg]
    · refine h.inner p hp ?_
      rcases hh with hh | ⟨k, v, hk, hv, h1, h2⟩
      · exact .inl hh
      · by_cases z : k = n
        · subst z
          rw [hw] at hv
          have : w = v := by simpa using hv
          subst this
          exact .inr (.inr ⟨h1, h1.length_le⟩)
        · exact .inr (.inl ⟨k, v, by omega, hv, h1, h2⟩)
    · intro q
      have e := same p hp q
      subst e
      rcases hh with hh | ⟨k, v, hk, hv, h1, h2⟩
      · exact W.ne n p hw hh
      · by_cases z : k = n
        · subst z
          rw [hw] at hv
          exact h2 (by simpa using hv)
        · exact W.free n k p v (fun y => z y.symm) hw hv h1
  · unfold put
    rw [if_neg]
    · exact h.out p hp hn (fun k v hk hv => hh k v (by omega) hv) fun z => hh n w (by omega) hw z.1
    · intro q
      have e := same p hp q
      subst e
      exact hh n p (by omega) hw (List.prefix_refl _)
/-! ### the plain reading of one word -/
inductive Res where
  | ok (k place : Nat)
  | inv
  | trunc
def isPre (tab : Tab) (p : List Int) : Bool := tab.any fun o => match o with
  | some w => decide (w.take p.length = p)
  | none => false
def scan (tab : Tab) (bits : List Int) (at_ : Nat) : Nat → Nat → Res
  | 0, _ => .trunc
  | f + 1, m => match tab.findIdx? (fun o => decide (o = some ((bits.drop at_).take (m + 1)))) with
    | some k => .ok k (at_ + m + 1)
    | none => if isPre tab ((bits.drop at_).take (m + 1)) = true then scan tab bits at_ f (m + 1) else .inv
def read (tab : Tab) (bits : List Int) (at_ : Nat) : Res := scan tab bits at_ (bits.length - at_) 0
theorem isPre_iff {tab : Tab} {p : List Int} : isPre tab p = true ↔ ∃ (k : Nat) (w : List Int), tab[k]? = some (some w) ∧ p <+: w := by
  unfold isPre
  rw [List.any_eq_true]
  constructor
  · rintro ⟨o, ho, h⟩
    cases o with
    | none => cases h
    | some w =>
      obtain ⟨k, hk⟩ := List.mem_iff_getElem?.mp ho
      have h' : w.take p.length = p := of_decide_eq_true h
      exact ⟨k, w, hk, by rw [← h']; exact List.take_prefix _ _⟩
  · rintro ⟨k, w, hk, h⟩
    exact ⟨some w, List.mem_of_getElem? hk, decide_eq_true (pre_take h).symm⟩
theorem idx_some {tab : Tab} {p : List Int} {k : Nat} (h : tab.findIdx? (fun o => decide (o = some p)) = some k) : tab[k]? = some (some p) := by
  obtain ⟨hk, h1, _⟩ := List.findIdx?_eq_some_iff_getElem.mp h
  rw [List.getElem?_eq_getElem hk]
  exact congrArg some (of_decide_eq_true h1)
theorem idx_none {tab : Tab} {p : List Int} (h : tab.findIdx? (fun o => decide (o = some p)) = none) : ∀ k : Nat, tab[k]? ≠ some (some p) := fun k z => by
  have := List.findIdx?_eq_none_iff.mp h _ (List.mem_of_getElem? z)
  simp at this
theorem idx_of {tab : Tab} {p : List Int} {k : Nat} (W : Wds tab) (h : tab[k]? = some (some p)) : tab.findIdx? (fun o => decide (o = some p)) = some k := by
  cases e : tab.findIdx? (fun o => decide (o = some p)) with
  | none => exact absurd h (idx_none e k)
  | some j =>
    have h2 := idx_some e
    by_cases z : j = k
    · rw [z]
    · exact absurd (List.prefix_refl p) (W.free j k p p z h2 h)
/-- a word that stands at the place is read -/
theorem read_word {tab : Tab} {bits w : List Int} {at_ k : Nat} (W : Wds tab) (hw : tab[k]? = some (some w)) (hat : w <+: bits.drop at_) : read tab bits at_ = .ok k (at_ + w.length) := by
  have hne := W.ne k w hw
  have hlen : 0 < w.length := List.length_pos_iff.mpr hne
  have hle := hat.length_le
  rw [List.length_drop] at hle
  have key : ∀ d m f, m + d + 1 = w.length → bits.length - at_ = f + m → scan tab bits at_ f m = .ok k (at_ + w.length) := fun d => by
    induction d with
    | zero =>
      intro m f hm hf
      obtain ⟨f, rfl⟩ : ∃ f', f = f' + 1 := ⟨f - 1, by omega⟩
      have ep : (bits.drop at_).take (m + 1) = w := by
        rw [show m + 1 = w.length by omega]
        exact (pre_take hat).symm
      unfold scan
      rw [ep, idx_of W hw]
      show Res.ok k (at_ + m + 1) = _
      congr 1
      omega
    | succ d ih =>
      intro m f hm hf
      obtain ⟨f, rfl⟩ : ∃ f', f = f' + 1 := ⟨f - 1, by omega⟩
      have ep : (bits.drop at_).take (m + 1) = w.take (m + 1) := by
        have h2 := pre_take hat
        rw [h2, List.take_take]
        congr 1
        omega
      have hn : tab.findIdx? (fun o => decide (o = some (w.take (m + 1)))) = none := by
        cases e : tab.findIdx? (fun o => decide (o = some (w.take (m + 1)))) with
        | none => rfl
        | some j =>
          have h2 := idx_some e
          by_cases z : j = k
          · subst z
            rw [hw] at h2
            have h3 : w = w.take (m + 1) := by simpa using h2
            have h4 := congrArg List.length h3
            rw [List.length_take] at h4
            omega
          · exact absurd (List.take_prefix (m + 1) w) (W.free j k _ w z h2 hw)
      unfold scan
      rw [ep, hn]
      have hp : isPre tab (w.take (m + 1)) = true := isPre_iff.mpr ⟨k, w, hw, List.take_prefix _ _⟩
      show (if isPre tab (w.take (m + 1)) = true then _ else _) = _
      rw [if_pos hp]
      exact ih (m + 1) f (by omega) (by omega)
  exact key (w.length - 1) 0 (bits.length - at_) (by omega) (by omega)
end M02
set_option Elab.async false
set_option linter.all false
set_option maxRecDepth 100000
set_option maxHeartbeats 4000000
namespace K16P
open PySem PySem.Spec PyProof.Rows L2 StX GX KC Evl M01 M02 KX
structure GT (mg : Str → Option Value) (tk : Tok) : Prop where
  g_ROOT : mg "ROOT" = some (.int 1 tk)
theorem ent_mem {ls : List Int} {o : List Nat} {k : Nat} {w : List Int} (h : (tabOf ls o)[k]? = some (some w)) : k ∈ o ∧ w = wd ls (upTo o k) k ∧ k < ls.length := by
  have hk : k < ls.length := by
    have := (List.getElem?_eq_some_iff.mp h).1
    rwa [tab_len] at this
  rw [tab_at hk] at h
  have h' := Option.some.inj h
  unfold ent at h'
  by_cases z : k ∈ o
  · rw [if_pos z] at h'
    exact ⟨z, (Option.some.inj h').symm, hk⟩
  · rw [if_neg z] at h'
    cases h'
theorem bits_bit (x l : Nat) : Bit (bitsL x l) := fun b hb => by
  obtain ⟨j, _, rfl⟩ := List.mem_map.mp hb
  omega
theorem wds {ls : List Int} {o : List Nat} (hl : Lok ls) (h : IsOrd ls o) (hk : kraft ls ≤ 1048576) : Wds (tabOf ls o) := by
  refine ⟨fun k w hw => ?_, fun k w hw => ?_, fun a b wa wb hab ha hb hp => ?_⟩
  · obtain ⟨_, rfl, _⟩ := ent_mem hw
    exact bits_bit _ _
  · obtain ⟨hm, rfl, _⟩ := ent_mem hw
    intro z
    have h1 : (wd ls (upTo o k) k).length = lnA ls k := bits_len _ _
    rw [z] at h1
    have := ((h.mem k).mp hm).2
    simp at h1
    omega
  · obtain ⟨hma, rfl, _⟩ := ent_mem ha
    obtain ⟨hmb, rfl, _⟩ := ent_mem hb
    have h1 : (wd ls (upTo o a) a).length = lnA ls a := bits_len _ _
    have h2 := pre_take hp
    rw [h1] at h2
    exact M01.free hl h hk hma hmb hab h2.symm
theorem wd_len {ls : List Int} {o : List Nat} (hl : Lok ls) {k : Nat} {w : List Int} (h : (tabOf ls o)[k]? = some (some w)) : w.length ≤ 20 := by
  obtain ⟨_, rfl, _⟩ := ent_mem h
  have h1 : (wd ls (upTo o k) k).length = lnA ls k := bits_len _ _
  rw [h1]
  exact ln_le hl k
def nats (a : List Nat) : List V := (a.map fun (k : Nat) => (k : Int)).map V.int
/-! writing -/
def wOf (tab : Tab) (k : Nat) : List Int := match tab[k]? with
  | some (some w) => w
  | _ => []
def enc (tab : Tab) (msg : List Nat) : List Int := msg.flatMap (wOf tab)
theorem enc_snoc (tab : Tab) (a : List Nat) (k : Nat) : enc tab (a ++ [k]) = enc tab a ++ wOf tab k := by
  unfold enc
  rw [List.flatMap_append]
  simp
theorem enc_cons (tab : Tab) (a : List Nat) (k : Nat) : enc tab (k :: a) = wOf tab k ++ enc tab a := by
  unfold enc
  rw [List.flatMap_cons]
def Pres (tab : Tab) (msg : List Nat) : Prop := ∀ k ∈ msg, ∃ w, tab[k]? = some (some w)
theorem wOf_is {tab : Tab} {k : Nat} {w : List Int} (h : tab[k]? = some (some w)) : wOf tab k = w := by
  unfold wOf
  rw [h]
theorem enc_len {tab : Tab} {B : Nat} (hb : ∀ (k : Nat) w, tab[k]? = some (some w) → w.length ≤ B) : ∀ msg : List Nat, (enc tab msg).length ≤ msg.length * B
  | [] => by simp [enc]
  | k :: r => by
    have ih := enc_len hb r
    rw [enc_cons, List.length_append, List.length_cons, Nat.add_mul]
    have : (wOf tab k).length ≤ B := by
      unfold wOf
      split
      · rename_i w hw
        exact hb k w hw
      · simp
    omega
section
variable {P : Program} {w : World} {K : PySem.W.Frag} {mg : Str → Option Value} {base : Heap}
def spWrite (K : PySem.W.Frag) (Pt : Addr) : Sp := fun vs H Q _ => ∃ (l0 lm : Addr) (ls : List Int) (o msg : List Nat), vs = [.ref l0, .ref lm] ∧ SqL K H l0 (ls.map V.int) ∧ Lok ls ∧ ls.length ≤ 100 ∧ kraft ls ≤ 1048576 ∧ H Pt = some (TabX Pt) ∧ IsOrd ls o ∧
  SqL K H lm (nats msg) ∧ Pres (tabOf ls o) msg ∧ msg.length ≤ 300 ∧ RetL ((enc (tabOf ls o) msg).map V.int) H Q
theorem ok_write_symbols {f Pt : Addr} {fd : FuncData} {k : Nat} (F : Fun K "write_symbols" "write_symbols" s_write_symbols f fd) (B : Bs mg) (C_words : Cal P w K mg base "words" 7 ["lengths"] (spWords K Pt)) : FnOk P w K mg base CX0 (k + 8) f fd ["lengths", "message"] (spWrite K Pt) := by
  refine F.ok sc_write_symbols (fun vs H Q E h => ?_) (fun cdv A outer s H vs Q E hr h => ?_)
  · obtain ⟨l0, lm, ls, o, msg, rfl, _⟩ := h
    rfl
  · obtain ⟨l0, lm, ls, o, msg, rfl, hs0, hok, hn, hkr, htab, hord, hsm, hpr, hml, q⟩ := h
    refine ⟨_, pss_cons (ps_set (i := 2) sc_write_symbols.nd rfl (Or.inr rfl) (pe_callC C_words (hr.mono (by omega)) (by rfl) (pa_cons (pv 0) pa_nil)))
      (pss_one (ps_ret (pe_lc2 (vs1 := [4]) (wi1 := iList K (tOp (rIxL K) (tVar 2) (tVar 3))) rfl sc_write_symbols.nd (pi_list (pv 1)) (blkOk_by (own := [("symbol", 3), ("bit", 4)]) (N := ["lengths", "message", "table", "symbol", "bit"]) (sc := defScope s_write_symbols) (by decide +kernel)) (by decide)
        (fun _ _ _ _ _ => (pg_name (i := 3) sc_write_symbols.nd rfl (Or.inl rfl))) (fun _ _ _ _ _ => pts_nil) (fun _ _ _ _ _ => pi_list (pe_ix (ix_listK (K := K) rfl) (pv 2) (pv 3) (fun _ _ => rfl))) (fun _ _ _ _ _ => (pg_name (i := 4) sc_write_symbols.nd rfl (Or.inl rfl))) (fun _ _ _ _ _ => pts_nil) (fun _ _ _ _ _ => (pv 4))))), ?_⟩
    have W := wds hok hord hkr
    refine ⟨_, rfl, l0, ls, o, rfl, hs0, hok, hn, hkr, htab, hord, fun pt vt Ht hpt et ht htf => ?_⟩
    have hml2 : (nats msg).length = msg.length := by unfold nats; rw [List.length_map, List.length_map]
    have hsm' := ex_l et hsm
    have hlw : ∀ (k : Nat) w, (tabOf ls o)[k]? = some (some w) → w.length ≤ 20 := fun k w h => wd_len hok h
    generalize htb : tabOf ls o = tab at *
    refine ⟨_, rfl, lm, rfl, ⟨_, hsm'⟩, fun D hD => ⟨fun i m H' => m + i = msg.length ∧ Ex Ht H' ∧ H' D = some (.lst ((enc tab (msg.take i)).map V.int)), ⟨msg.length, by omega, Ex.new hD, upd_same⟩, ?_⟩⟩
    rintro i m H' ⟨hm, e3, hl⟩
    by_cases hi : i < msg.length
    · right
      have hat : (nats msg)[i]? = some (.int ((msg.getD i 0 : Nat) : Int)) := by
        unfold nats
        rw [List.getElem?_map, List.getElem?_map, List.getElem?_eq_getElem hi, List.getD_eq_getElem?_getD, List.getElem?_eq_getElem hi]
        rfl
      have hmi : msg.getD i 0 = msg[i] := by rw [List.getD_eq_getElem?_getD, List.getElem?_eq_getElem hi] <;> rfl
      have htk : msg.take (i + 1) = msg.take i ++ [msg.getD i 0] := by rw [hmi]; exact (List.take_append_getElem hi).symm
      obtain ⟨w1, hw1⟩ := hpr _ (List.getElem_mem hi)
      rw [← hmi] at hw1
      refine ⟨⟨_, _, ex_l e3 hsm', hat⟩, fun H' => (m - 1) + (i + 1) = msg.length ∧ Ex Ht H' ∧ H' D = some (.lst ((enc tab (msg.take (i + 1))).map V.int)), fun H' q => ⟨m - 1, by omega, q⟩, ?_⟩
      rintro x H5 ⟨rfl, hx⟩
      have ex1 := (Option.some.inj (hat.symm.trans (hx _ (ex_l e3 hsm')))).symm
      subst ex1
      generalize hk1 : msg.getD i 0 = k1 at *
      have hkl : k1 < tab.length := (List.getElem?_eq_some_iff.mp hw1).1
      have hvl : vt.length = tab.length := htf.1
      have hvt : vt[k1]? = some vt[k1] := List.getElem?_eq_getElem (by omega)
      have hent := (htf.ext e3).2 k1 _ _ hvt hw1
      obtain ⟨r, hr1, _, _, hrl⟩ := hent
      rw [hr1] at hvt
      have hb20 := hlw _ _ hw1
      have hel := enc_len hlw (msg.take i)
      have htl : (msg.take i).length ≤ 300 := by rw [List.length_take]; omega
      refine ⟨rfl, tt_yes ?_⟩
      refine ⟨.ref pt, rfl, _, rfl, pt, vt, _, _, rfl, rfl, sq_of (e3 pt _ ht), atI_nat hvt, r, rfl, ⟨_, sq_of hrl⟩, fun j k H' => k + j = w1.length ∧ Ex Ht H' ∧ H' D = some (.lst ((enc tab (msg.take i) ++ w1.take j).map V.int)) ∧ H' r = some (.lst (w1.map V.int)) ∧ r ≠ D, ⟨w1.length, by omega, e3, by rw [List.take_zero, List.append_nil]; exact hl, hrl, fun z => ?_⟩, ?_⟩
      · have := htf.2 k1 _ _ (by rw [hvt]) hw1
        obtain ⟨r2, e2, _, _, h2⟩ := this
        cases e2
        rw [z, hD] at h2
        cases h2
      rintro j kk H6 ⟨hkk, e6, hl6, hr6, hrD⟩
      by_cases hj : j < w1.length
      · right
        have hwj : w1.getD j 0 = w1[j] := by rw [List.getD_eq_getElem?_getD, List.getElem?_eq_getElem hj] <;> rfl
        have htj : w1.take (j + 1) = w1.take j ++ [w1.getD j 0] := by rw [hwj]; exact (List.take_append_getElem hj).symm
        refine ⟨⟨_, _, sq_of hr6, int_at hj⟩, fun H' => (kk - 1) + (j + 1) = w1.length ∧ Ex Ht H' ∧ H' D = some (.lst ((enc tab (msg.take i) ++ w1.take (j + 1)).map V.int)) ∧ H' r = some (.lst (w1.map V.int)) ∧ r ≠ D, fun H' q => ⟨kk - 1, by omega, q⟩, ?_⟩
        rintro x H7 ⟨rfl, hx⟩
        have ex2 := (Option.some.inj ((int_at hj).symm.trans (hx _ (sq_of hr6)))).symm
        subst ex2
        refine ⟨rfl, tt_yes ⟨_, rfl, _, hl6, sz_lt (by rw [List.length_map, List.length_append, List.length_take]; omega), by omega, Ex.mut e6 hD, ?_, by rw [upd_ne hrD]; exact hr6, hrD⟩⟩
        rw [upd_same, htj, ← List.append_assoc, List.map_append (l₁ := enc tab (msg.take i) ++ w1.take j)]
        rfl
      · left
        have hjw : j = w1.length := by omega
        subst hjw
        refine ⟨⟨_, sq_of hr6, by rw [List.length_map]; exact Nat.le_refl _⟩, by omega, e6, ?_⟩
        rw [htk, enc_snoc, wOf_is hw1]
        rw [List.take_length] at hl6
        exact hl6
    · left
      have hin : i = msg.length := by omega
      subst hin
      rw [List.take_length] at hl
      exact ⟨⟨_, ex_l e3 hsm', by rw [hml2]; exact Nat.le_refl _⟩, q D H' (fresh_back et hD) (et.trans e3) hl⟩
end
end K16P
set_option linter.all false
/-! An order of the words exists; a length that is put in. -/
namespace M16
open M01
theorem proc_row {ls : List Int} {L : Nat} (hL : 0 < L) (h : ∃ o, Proc ls L 0 o) : ∀ k, k ≤ ls.length → ∃ o, Proc ls L k o
  | 0, _ => h
  | k + 1, hk => by
    obtain ⟨o, ho⟩ := proc_row hL h k (by omega)
    by_cases e : lnA ls k = L
    · exact ⟨_, (ho.add e hL (by omega)).1⟩
    · exact ⟨o, ho.skip e⟩
theorem proc_all (ls : List Int) : ∀ L, ∃ o, Proc ls (L + 1) 0 o
  | 0 => ⟨[], Proc.zero ls⟩
  | L + 1 => by
    obtain ⟨o, ho⟩ := proc_row (by omega) (proc_all ls L) ls.length (Nat.le_refl _)
    exact ⟨o, ho.next⟩
theorem has_ord {ls : List Int} (h : Lok ls) : ∃ o, IsOrd ls o := by
  obtain ⟨o, ho⟩ := proc_all ls 20
  exact ⟨o, ho.whole h⟩
theorem kraft_set {base : List Int} {k : Nat} {v : Int} (hk : k < base.length) (h0 : base.getD k 0 = 0) : kraft (base.set k v) = kraft base + share v := by
  induction base generalizing k with
  | nil => simp at hk
  | cons x r ih =>
    cases k with
    | zero =>
      have : x = 0 := h0
      subst this
      show share v + kraft r = share 0 + kraft r + share v
      have : share 0 = 0 := rfl
      omega
    | succ k =>
      have := ih (k := k) (by simpa using hk) (by simpa using h0)
      show share x + kraft (r.set k v) = share x + kraft r + share v
      omega
theorem kraft_snoc (a : List Int) (x : Int) : kraft (a ++ [x]) = kraft a + share x := by
  rw [kraft_app]
  congr 1
  show share x + 0 = share x
  omega
end M16
set_option Elab.async false
set_option linter.all false
set_option maxRecDepth 100000
set_option maxHeartbeats 4000000
set_option exponentiation.threshold 20000
namespace K16
open PySem PySem.Spec PyProof.Rows L2 StX GX KC KQ KW Evl M08 M09 M10 M01 M14 M15 M16
/-! the lengths belong to a code; its words -/
theorem occ_nodup (cs : List Int) : (occ cs).Nodup := List.nodup_range.filter _
structure ScI (n : Nat) (o : List Nat) (fs : List Int) (i : Nat) (ls : List Int) : Prop where
  len : ls.length = n
  bd : ∀ x ∈ ls, 0 ≤ x ∧ x ≤ 15
  kr : kraft ls = kraft (fs.take i)
  at_ : ∀ k, k < n → (ls.getD k 0 = 0 ↔ k ∉ o.take i)
theorem getD_set {ls : List Int} {k j : Nat} {v : Int} (hk : k < ls.length) : (ls.set k v).getD j 0 = if j = k then v else ls.getD j 0 := by
  rw [List.getD_eq_getElem?_getD, List.getD_eq_getElem?_getD, List.getElem?_set]
  by_cases z : j = k
  · subst z
    simp [hk]
  · have : ¬ k = j := fun e => z e.symm
    simp [z, this]
theorem sc_step {n : Nat} {o : List Nat} {fs ls : List Int} {i : Nat} (h : ScI n o fs i ls) (hnd : o.Nodup) (hi : i < o.length) (hf : i < fs.length) (ho : ∀ k ∈ o, k < n) (hb : ∀ x ∈ fs, 1 ≤ x ∧ x ≤ 15) : ScI n o fs (i + 1) (ls.set (o.getD i 0) (fs.getD i 0)) := by
  have e1 : o.getD i 0 = o[i] := by rw [List.getD_eq_getElem?_getD, List.getElem?_eq_getElem hi] <;> rfl
  have e2 : fs.getD i 0 = fs[i] := by rw [List.getD_eq_getElem?_getD, List.getElem?_eq_getElem hf] <;> rfl
  have t1 : o.take (i + 1) = o.take i ++ [o[i]] := (List.take_append_getElem hi).symm
  have t2 : fs.take (i + 1) = fs.take i ++ [fs[i]] := (List.take_append_getElem hf).symm
  have hk := ho _ (List.getElem_mem hi)
  have hv := hb _ (List.getElem_mem hf)
  have hni : o[i] ∉ o.take i := fun z => by
    rw [← List.take_append_drop i o, List.nodup_append] at hnd
    exact hnd.2.2 _ z _ (by rw [List.drop_eq_getElem_cons hi]; exact List.mem_cons_self) rfl
  rw [e1, e2]
  refine ⟨by rw [List.length_set, h.len], fun x hx => ?_, ?_, fun k hkn => ?_⟩
  · rcases List.mem_or_eq_of_mem_set hx with z | z
    · exact h.bd x z
    · omega
  · rw [kraft_set (by rw [h.len]; exact hk) ((h.at_ _ hk).mpr hni), h.kr, t2, kraft_snoc]
  · rw [getD_set (by rw [h.len]; exact hk), t1, List.mem_append, List.mem_singleton]
    by_cases z : k = o[i]
    · rw [if_pos z]
      exact ⟨fun y => absurd y (by omega), fun y => absurd (.inr z) y⟩
    · rw [if_neg z, h.at_ k hkn]
      exact ⟨fun y e => e.elim y z, fun y e => y (.inl e)⟩
theorem sc_all {n : Nat} {o : List Nat} {fs : List Int} (hnd : o.Nodup) (hl : fs.length = o.length) (ho : ∀ k ∈ o, k < n) (hb : ∀ x ∈ fs, 1 ≤ x ∧ x ≤ 15) : ∀ i, i ≤ o.length → ScI n o fs i (scatL o fs (List.replicate n 0) i)
  | 0, _ => ⟨by rw [scatL, List.length_replicate], fun x hx => by rw [List.eq_of_mem_replicate hx]; decide, by
      rw [scatL, List.take_zero, kraft_zero _ fun x hx => List.eq_of_mem_replicate hx]
      rfl, fun k hk => by
      rw [scatL, List.getD_eq_getElem?_getD, List.getElem?_replicate, if_pos hk]
      simp⟩
  | i + 1, hi => sc_step (sc_all hnd hl ho hb i (by omega)) hnd (by omega) (by omega) ho hb
structure LensOk (cs ls : List Int) : Prop where
  len : ls.length = cs.length
  bd : ∀ x ∈ ls, 0 ≤ x ∧ x ≤ 15
  kr : kraft ls ≤ 1048576
  at_ : ∀ k, k < cs.length → (ls.getD k 0 = 0 ↔ k ∉ occ cs)
theorem LensOk.lok {cs ls : List Int} (h : LensOk cs ls) : Lok ls := fun x hx => by
  have := h.bd x hx
  omega
theorem lens_ok {cs : List Int} (hb : ∀ x ∈ cs, 0 ≤ x ∧ x ≤ 1000000) (hl : cs.length ≤ 16) (h1 : 1 ≤ (occ cs).length) : LensOk cs (lensB cs) := by
  unfold lensB
  by_cases hone : (occ cs).length = 1
  · rw [if_pos hone]
    have h := sc_all (n := cs.length) (o := occ cs) (fs := [1]) (occ_nodup cs) (by rw [hone]; rfl) (fun k hk => occ_lt hk) (fun x hx => by rw [List.mem_singleton.mp hx]; decide) 1 (by omega)
    refine ⟨h.len, h.bd, ?_, fun k hk => ?_⟩
    · refine Int.le_trans (Int.le_of_eq h.kr) ?_
      decide
    · have := h.at_ k hk
      rw [List.take_of_length_le (by omega)] at this
      exact this
  · rw [if_neg hone]
    obtain ⟨v, hv⟩ := occ_first hb hl h1
    have hwl : (occW cs).length = (occ cs).length := by unfold occW; rw [List.length_map]
    obtain ⟨F, hF, hg⟩ := M04.lens_good (ws := occW cs) (L := 15) (by decide) (fun z => by rw [z] at hwl; simp at hwl; omega) hv
    rw [hF]
    have hfl : (M04.asI F).length = (occ cs).length := by
      unfold M04.asI
      rw [List.length_map, hg.len, hwl]
    have h := sc_all (n := cs.length) (o := occ cs) (fs := M04.asI F) (occ_nodup cs) hfl (fun k hk => occ_lt hk) (fun x hx => by
      obtain ⟨l, hl, rfl⟩ := List.mem_map.mp hx
      have := hg.bd l hl
      omega) (occ cs).length (Nat.le_refl _)
    refine ⟨h.len, h.bd, ?_, fun k hk => ?_⟩
    · have hr := M04.good_room (by decide) hg
      unfold roomL at hr
      have e := h.kr
      rw [List.take_of_length_le (by omega)] at e
      omega
    · have := h.at_ k hk
      rw [List.take_of_length_le (Nat.le_refl _)] at this
      exact this
open Classical in
/-- the message in the words of the code -/
noncomputable def encP (ls : List Int) (msg : List Nat) : List Int := if h : ∃ o, IsOrd ls o then K16P.enc (tabOf ls h.choose) msg else []
theorem encP_eq {ls : List Int} {o : List Nat} {msg : List Nat} (h : IsOrd ls o) : encP ls msg = K16P.enc (tabOf ls o) msg := by
  have hx : ∃ o, IsOrd ls o := ⟨o, h⟩
  unfold encP
  rw [dif_pos hx, hx.choose_spec.uniq h]
theorem pres_of {ls : List Int} {o msg : List Nat} (h : IsOrd ls o) (hm : ∀ s ∈ msg, s < ls.length ∧ 0 < lnA ls s) : K16P.Pres (tabOf ls o) msg := fun k hk => by
  obtain ⟨a, b⟩ := hm k hk
  rw [tab_at a]
  unfold ent
  rw [if_pos ((h.mem k).mpr ⟨a, b⟩)]
  exact ⟨_, rfl⟩
theorem encP_len {ls : List Int} {msg : List Nat} (h : Lok ls) : (encP ls msg).length ≤ msg.length * 20 := by
  obtain ⟨o, ho⟩ := has_ord h
  rw [encP_eq ho]
  exact K16P.enc_len (fun k w hw => K16P.wd_len h hw) msg
/-! counts of a block -/
theorem cnt_get {n : Nat} {bs : List Nat} {k : Nat} (h : k < n) : (cntL n bs).getD k 0 = ((bs.filter fun s => decide (s = k)).length : Int) := by
  unfold cntL
  rw [List.getD_eq_getElem?_getD, List.getElem?_map, List.getElem?_range h]
  rfl
theorem cnt_occ {n : Nat} {bs : List Nat} {s : Nat} (hs : s ∈ bs) (hn : s < n) : s ∈ occ (cntL n bs) := by
  refine List.mem_filter.mpr ⟨List.mem_range.mpr (by rw [cnt_len]; exact hn), decide_eq_true ?_⟩
  have := cnt_live hs hn
  omega
theorem cnt_bd {n : Nat} {bs : List Nat} (hl : bs.length ≤ 300) : ∀ x ∈ cntL n bs, 0 ≤ x ∧ x ≤ 300 := fun x hx => by
  obtain ⟨k, _, rfl⟩ := List.mem_map.mp hx
  have := List.length_filter_le (fun s => decide (s = k)) bs
  show (0 : Int) ≤ ((bs.filter fun s => decide (s = k)).length : Int) ∧ ((bs.filter fun s => decide (s = k)).length : Int) ≤ 300
  omega
theorem cnt_occ1 {n : Nat} {bs : List Nat} (hne : bs ≠ []) (h : ∀ s ∈ bs, s < n) : 1 ≤ (occ (cntL n bs)).length := by
  obtain ⟨s, r, rfl⟩ := List.exists_cons_of_ne_nil hne
  exact List.length_pos_of_mem (cnt_occ List.mem_cons_self (h s List.mem_cons_self))
theorem cnt_lens {n : Nat} {bs : List Nat} (hn : n ≤ 16) (hl : bs.length ≤ 300) (hne : bs ≠ []) (h : ∀ s ∈ bs, s < n) : LensOk (cntL n bs) (lensB (cntL n bs)) :=
  lens_ok (fun x hx => by have := cnt_bd hl x hx; omega) (by rw [cnt_len]; exact hn) (cnt_occ1 hne h)
theorem lens_live {n : Nat} {bs : List Nat} {ls : List Int} (g : LensOk (cntL n bs) ls) (h : ∀ s ∈ bs, s < n) : ∀ s ∈ bs, s < ls.length ∧ 0 < lnA ls s := fun s hs => by
  have hn := h s hs
  have hl : s < ls.length := by rw [g.len, cnt_len]; exact hn
  refine ⟨hl, ?_⟩
  have h1 : ¬ ls.getD s 0 = 0 := fun z => (g.at_ s (by rw [cnt_len]; exact hn)).mp z (cnt_occ hs hn)
  have h2 : 0 ≤ ls.getD s 0 := by
    rw [List.getD_eq_getElem?_getD, List.getElem?_eq_getElem hl]
    exact (g.bd _ (List.getElem_mem hl)).1
  unfold lnA
  omega
section
variable {P : Program} {w : World} {K : PySem.W.Frag} {mg : Str → Option Value} {base : Heap} {Cl : Nat → Addr} {σ : L2.St} {H H' : Hp} {ta tb te : TE} {t1 t2 t3 t4 t5 : Tok}
theorem el_call1N {sp : Sp} {E : XK} {xs zs : List V} (h1 : EvL ta σ H xs) (hs : ∀ p H1, Ex H H1 → H1 p = some (.lst xs) → SpL sp ([.ref p] ++ []) H1 zs) : EvL (tCall sp [] E (tCons ta tNil)) σ H zs := fun H1 e Q q =>
  h1 H1 e _ fun p H2 hp e2 hx => hs p H2 (e.trans e2) hx H2 (Ex.refl _) Q (fun p2 H4 hp2 e4 h4 => q p2 H4 (fresh_back e2 hp2) (e2.trans e4) h4) E
noncomputable def prefB (n : Nat) (bs : List Nat) : List Int := ((lensB (cntL n bs)).flatMap fun l => bitsL l.toNat 4) ++ encP (lensB (cntL n bs)) bs
/-- the words of a block by lengths that have them -/
theorem el_write {E : XK} {l0 lm Pt : Addr} {n : Nat} {bs : List Nat} (hn : n ≤ 16) (hl : bs.length ≤ 300) (hne : bs ≠ []) (hb : ∀ s ∈ bs, s < n) (h1 : Ev ta σ H (.ref l0)) (h2 : Ev tb σ H (.ref lm)) (hs1 : SqL K H l0 ((lensB (cntL n bs)).map V.int)) (hs2 : SqL K H lm (natsV bs)) (tP : H Pt = some (TabX Pt)) :
    EvL (tCall (K16P.spWrite K Pt) [] E (tCons ta (tCons tb tNil))) σ H ((encP (lensB (cntL n bs)) bs).map V.int) := by
  have g := cnt_lens hn hl hne hb
  obtain ⟨o, ho⟩ := has_ord g.lok
  refine el_call (ea2 h1 h2) fun H1 e1 Q q E => ⟨l0, lm, _, o, bs, rfl, ex_l e1 hs1, g.lok, by rw [g.len, cnt_len]; omega, g.kr, e1 _ _ tP, ho, ?_, pres_of ho (lens_live g hb), hl, ?_⟩
  · have := ex_l e1 hs2
    rw [natsV_ints] at this
    exact this
  · rw [encP_eq ho] at q
    exact q
theorem lens_flat {n : Nat} {bs : List Nat} (hn : n ≤ 16) (hl : bs.length ≤ 300) (hne : bs ≠ []) (hb : ∀ s ∈ bs, s < n) : ((lensB (cntL n bs)).flatMap fun l => bitsL l.toNat 4).length ≤ 64 := by
  have := flat_len (f := fun l => bitsL l.toNat 4) (c := 4) (lensB (cntL n bs)) fun x hx => by rw [bits_len]; exact Nat.le_refl _
  rw [(cnt_lens hn hl hne hb).len, cnt_len] at this
  omega
theorem ok_prefix_body {f PR Pt : Addr} {fd : FuncData} {k : Nat} (F : Fun K "prefix_body" "prefix_body" s_prefix_body f fd) (B : Bs mg) (T : GC mg t1 t2 t3 t4 t5) (C_block_counts : Cal P w K mg base "block_counts" 1 ["size", "block"] (spCounts K)) (C_block_lengths : Cal P w K mg base "block_lengths" 9 ["counts"] (spBLens K PR))
    (C_field_bits : Cal P w K mg base "field_bits" 1 ["number", "width"] spBits) (C_write_symbols : Cal P w K mg base "write_symbols" 8 ["lengths", "message"] (K16P.spWrite K Pt)) :
    FnOk P w K mg base CX0 (k + 10) f fd ["size", "block"] (spBody K prefB fun H => H PR = some (TabX PR) ∧ H Pt = some (TabX Pt)) := by
  refine F.ok sc_prefix_body (fun vs H Q E h => ?_) (fun cdv A outer s H vs Q E hr h => ?_)
  · obtain ⟨l, n, bs, rfl, _⟩ := h
    rfl
  · obtain ⟨l, n, bs, rfl, hn, hn2, hs, hl, hne, hb, ⟨tR, tP⟩, q⟩ := h
    refine ⟨_, (pss_cons (ps_set (i := 2) sc_prefix_body.nd rfl (Or.inl rfl) (pe_callC C_block_lengths (hr.mono (by omega)) (by rfl) (pa_cons (pe_callC C_block_counts (hr.mono (by omega)) (by rfl) (pa_cons (pv 0) (pa_cons (pv 1) pa_nil))) pa_nil)))
      (pss_cons (ps_setLc2 (i := 3) (vs1 := [5]) (wi1 := iList K (tCall spBits [] _ (tCons (tVar 4) (tCons (tC (.int 4)) tNil)))) rfl sc_prefix_body.nd rfl rfl (sw_true rfl rfl rfl (by decide +kernel)) (pi_list (pv 2)) (blkOk_by (own := [("length", 4), ("bit", 5)]) (N := ["size", "block", "lengths", "told", "length", "bit"]) (sc := defScope s_prefix_body) (by decide +kernel)) (by decide) (fun _ _ _ _ _ => (pg_name (i := 4) sc_prefix_body.nd rfl (Or.inl rfl))) (fun _ _ _ _ _ => pts_nil) (fun _ _ _ _ _ => (pi_list (pe_callC C_field_bits (hr.mono (by omega)) (by rfl) (pa_cons (pv 4) (pa_cons (pe_glob (v := .int 4) (by rfl) T.g_LENGTH_WIDTH ⟨_, rfl⟩) pa_nil))))) (fun _ _ _ _ _ => (pg_name (i := 5) sc_prefix_body.nd rfl (Or.inl rfl))) (fun _ _ _ _ _ => pts_nil) (fun _ _ _ _ _ => (pv 5)))
      (pss_one (ps_ret (pe_op op_cat (pv 3) (pe_callC C_write_symbols (hr.mono (by omega)) (by rfl) (pa_cons (pv 2) (pa_cons (pv 1) pa_nil)))))))), ?_⟩
    have g := cnt_lens hn2 hl hne hb
    refine q_asgL (el_call1N (el_call (ea2 (ev_var rfl) (ev_var rfl)) fun H1 e1 Q q E => ⟨l, n, bs, rfl, by omega, ex_l e1 hs, hb, q⟩) fun p H1 e1 h1 H2 e2 Q q E => ⟨p, cntL n bs, rfl, sq_of (e2 _ _ h1), by rw [cnt_len]; exact hn2, fun x hx => by have := cnt_bd hl x hx; omega, cnt_occ1 hne hb, (e1.trans e2) _ _ tR, q⟩) fun pl H1 hpl e1 h1 => ?_
    refine q_asgL (el_lc2F (fun l => bitsL l.toNat 4) (ev_var rfl) (sq_of h1) ?_ (fun x => rfl) (fun x y => rfl) (fun x y => rfl) fun x hx H2 e2 => ?_) fun pt H2 hpt e2 h2 => ?_
    · have := lens_flat hn2 hl hne hb
      omega
    · have hx2 := g.bd x hx
      exact el_bits (x := x.toNat) (l := 4) (ev_is (ev_var rfl) (by congr 1; omega)) ev_c rfl (by omega)
    · refine s_retL (xs := (prefB n bs).map V.int) ?_ fun p2 H3 hp2 e3 h3 => q p2 H3 (fresh_back (e1.trans e2) hp2) ((e1.trans e2).trans e3) h3
      unfold prefB
      rw [List.map_append]
      refine el_cat3 (ev_var rfl) h2 (el_write hn2 hl hne hb (ev_var rfl) (ev_var rfl) (sq_of (e2 _ _ h1)) (ex_l (e1.trans e2) hs) ((e1.trans e2) _ _ tP)) ?_
      have := lens_flat hn2 hl hne hb
      have := encP_len (msg := bs) g.lok
      rw [List.length_map, List.length_map]
      omega
end
end K16
set_option Elab.async false
set_option linter.all false
set_option maxRecDepth 100000
set_option maxHeartbeats 4000000
/-! A call of a local name that holds one of several defs; a list of new lists; min and index of a list of ints. -/
namespace KW
open PySem PySem.Spec PyProof.Rows L2 StX GX KC KQ Evl
structure HeldX (CX : CXT) (P : Program) (w : World) (K : PySem.W.Frag) (mg : Str → Option Value) (base : Heap) (k : Nat) (f : Addr) (sp : Sp) : Prop where
  ex : ∃ (fd : FuncData) (ps : List Str), FnOk P w K mg base CX k f fd ps sp ∧ PySem.W.keepIn K (.ref f) = true ∧ Binds K fd ps []
/-- the i-th slot holds a def; S tells its promise -/
def tCallR (i : Nat) (S : Addr → Sp → Prop) (E : XK) (t : TA) : TE := fun σ H Q => ∃ f sp, σ[i]? = some (some (.ref f)) ∧ S f sp ∧ t σ H fun vs H1 => sp (vs ++ []) H1 Q E
theorem pe_callR {X : Cx} {CX : CXT} {k i : Nat} {x : Str} {p pos : Pos} {e : Expr} {es : List Expr} {t : TA} {E : XK} {S : Addr → Sp → Prop} (A : ∀ f sp, S f sp → HeldX CX X.prog X.w X.K X.mg X.base k f sp) (hr : Room k X.A) (hx : Passes CX X E) (ha : PA X (e :: es) t)
    (hN : X.N[i]? = some x := by rfl) (hv : Vis X.env.scope x := by first | exact Or.inl rfl | exact Or.inr (Or.inl rfl) | exact Or.inr (Or.inr rfl))
    (hdb : (x == ("__debug__" : Str)) = false := by decide) (hcd : (x == ("__classdict__" : Str)) = false := by decide)
    (he : starEach (e :: es) X.env = (false, eval e X.env) :: starEach es X.env := by rfl) (hpl : (backTo pos (starEach es X.env)).any (·.1) = false := by rfl) : PE X (.Call (.Name x p) (e :: es) [] pos) (tCallR i S E t) := by
  refine ⟨fun pins s σ H Q I h => ?_⟩
  obtain ⟨f, sp, hs, hS, ht⟩ := h
  obtain ⟨fd, ps, F, hk, hb⟩ := (A f sp hS).ex
  exact (pe_callL (i := i) (f := f) (sp := sp) (dvs := []) (E := E) F hr hN hv hk hb .nil hx ha hdb hcd he hpl).run pins s σ H Q I ⟨hs, ht⟩
theorem pi_listK {X : Cx} {K : PySem.W.Frag} {tg l : Expr} {tl : TE} (h : X.K = K) (hl : PE X l tl) : PI X tg l (iList K tl) := by
  subst h
  exact pi_list hl
section
variable {K : PySem.W.Frag} {σ : L2.St} {H H' : Hp} {ta tb te : TE}
theorem el_callR {i : Nat} {S : Addr → Sp → Prop} {E : XK} {t : TA} {f : Addr} {sp : Sp} {vs zs : List V} (hs : σ[i]? = some (some (.ref f))) (hS : S f sp) (h : EvA t σ H vs) (hp : SpL sp (vs ++ []) H zs) : EvL (tCallR i S E t) σ H zs := fun H1 e Q q =>
  ⟨f, sp, hs, hS, h H1 e _ fun H2 e2 => hp H2 (e.trans e2) Q (fun p H3 hp3 e3 h3 => q p H3 (fresh_back e2 hp3) (e2.trans e3) h3) E⟩
theorem ev_lenT {p : Addr} {xs : List V} (ha : Ev ta σ H (.ref p)) (h : SqT K H p xs) : Ev (tCB (rLenS K) (tCons ta tNil)) σ H (.int (xs.length : Int)) := fun H1 e Q q =>
  ha H1 e _ fun H2 e2 => ⟨p, xs, rfl, .inr (ex_t (e.trans e2) h), q H2 e2⟩
/-- [f(i) for i in range(n)], where f makes a new list of ints -/
theorem ep_lcLL {ta : TA} {j n : Nat} {vs : List Nat} (c : Nat → List Int) (h : EvA ta σ H [.int (n : Int)]) (hn : n ≤ 40000) (hw : ∀ x, wipe ((wipe σ vs).set j (some x)) vs = wipe σ vs)
    (he : ∀ (i : Nat) H1, Ex H H1 → i < n → EvL te ((wipe σ vs).set j (some (.int (i : Int)))) H1 ((c i).map V.int)) : EvP (tLc (iRng1 ta) (gName j) tYes te vs) σ H fun v H' => ∃ p, v = .ref p ∧ H p = none ∧ LL H' p ((List.range n).map c) :=
  ep_lcR1 h hn hw (fun H1 Dl i H' => H Dl = none ∧ Ex H1 H' ∧ LL H' Dl ((List.range i).map c)) (fun H1 Dl e hD => ⟨fresh_back e hD, Ex.new hD, [], upd_same, rfl, fun j r c hr => by simp at hr⟩)
    (fun H1 Dl i H' e hD hi ⟨h0, e1, rs, h1, h2, h3⟩ => he i H' (e.trans e1) hi H' (Ex.refl _) _ fun r H4 hr e4 h4 => by
      have hrD : r ≠ Dl := fun z => by rw [z, h1] at hr; cases hr
      rw [List.length_map, List.length_range] at h2
      refine ⟨rs.map V.ref, e4 _ _ h1, sz_lt (by rw [List.length_map]; omega), h0, Ex.mut (e1.trans e4) hD, rs ++ [r], by rw [upd_same, List.map_append] <;> rfl, by rw [List.length_append, List.length_map, List.length_range, h2] <;> rfl, fun j r2 c2 hr2 hc2 => ?_⟩
      rw [List.range_succ, List.map_append] at hc2
      by_cases z : j < i
      · rw [List.getElem?_append_left (by omega)] at hr2
        rw [List.getElem?_append_left (by rw [List.length_map, List.length_range]; exact z)] at hc2
        have h5 := e4 _ _ (h3 j r2 c2 hr2 hc2)
        have hne : r2 ≠ Dl := fun y => by
          have h6 := h3 j r2 c2 hr2 hc2
          rw [y, h1] at h6
          have h7 := (Option.some.inj h6)
          injection h7 with h7
          cases rs with
          | nil => simp at hr2
          | cons a rs =>
            cases c2 with
            | nil => simp at h7
            | cons b c2 => simp at h7
        rw [upd_ne hne]
        exact h5
      · have hj : j = i := by
          have := (List.getElem?_eq_some_iff.mp hr2).1
          rw [List.length_append] at this
          simp at this
          omega
        subst hj
        rw [List.getElem?_append_right (by omega), h2, Nat.sub_self] at hr2
        rw [List.getElem?_append_right (by rw [List.length_map, List.length_range]; omega), List.length_map, List.length_range, Nat.sub_self] at hc2
        cases hr2
        cases hc2
        rw [upd_ne hrD]
        exact h4) (fun H1 Dl H' e hD ⟨h0, e1, h2⟩ => ⟨e1, Dl, rfl, h0, h2⟩)
theorem ev_minL {l : Addr} {ls : List Int} {m : Int} (h : Ev ta σ H (.ref l)) (hs : SqL K H l (ls.map V.int)) (hm : m ∈ ls) (hall : ∀ y ∈ ls, m ≤ y) : Ev (tCB (rMin K) (tCons ta tNil)) σ H (.int m) := fun H1 e Q q =>
  h H1 e _ fun H2 e2 => ⟨l, ls, rfl, ex_l (e.trans e2) hs, List.length_pos_of_mem hm, fun n hn hal => by
    have h1 := hal m hm
    have h2 := hall n hn
    have : n = m := by omega
    subst this
    exact q H2 e2⟩
theorem ev_idxI {l : Addr} {ls : List Int} {m : Int} {j : Nat} (h : Ev ta σ H (.ref l)) (hs : SqL K H l (ls.map V.int)) (h2 : Ev tb σ H (.int m)) (hj : ls[j]? = some m) (hno : ∀ i x, i < j → ls[i]? = some x → x ≠ m) : Ev (tBM K "list" (rIndex K) ta (tCons tb tNil)) σ H (.int (j : Int)) := fun H1 e Q q =>
  h H1 e _ fun H2 e2 => ⟨Or.inl ⟨rfl, _, ex_l (e.trans e2) hs⟩, h2 H2 (e.trans e2) _ fun H3 e3 => ⟨l, ls.map V.int, .int m, j, .int m, rfl, rfl, ex_l ((e.trans e2).trans e3) hs, rfl, by rw [List.all_map]; exact List.all_eq_true.mpr fun x _ => rfl, by rw [List.getElem?_map, hj]; rfl, by simp [eqV], fun i z hi hz => by
    rw [List.getElem?_map] at hz
    cases hx : ls[i]? with
    | none => rw [hx] at hz; cases hz
    | some x =>
      rw [hx] at hz
      cases hz
      have := hno i x hi hx
      simp [eqV, this], q H3 (e2.trans e3)⟩⟩
end
end KW
set_option Elab.async false
set_option linter.all false
set_option maxRecDepth 100000
set_option maxHeartbeats 4000000
set_option exponentiation.threshold 20000
namespace K16
open PySem PySem.Spec PyProof.Rows L2 StX GX KC KQ KW Evl M08 M09 M10 M01 M14 M15 M16
noncomputable def bodyB (n : Nat) (bs : List Nat) (form : Nat) : List Int := if form = 0 then fieldB n bs else if form = 1 then prefB n bs else if form = 2 then countB n bs else learnB n bs
abbrev TT2 (PR Pt : Addr) : Hp → Prop := fun H => H PR = some (TabX PR) ∧ H Pt = some (TabX Pt)
theorem tt2_ext {PR Pt : Addr} {H H' : Hp} (e : Ex H H') (h : TT2 PR Pt H) : TT2 PR Pt H' := ⟨e _ _ h.1, e _ _ h.2⟩
structure GB (K : PySem.W.Frag) (mg : Str → Option Value) (tb f0 f1 f2 f3 : Addr) : Prop where
  g_BODIES : mg "BODIES" = some (.ref tb)
  st : ∀ H, SqT K H tb [.ref f0, .ref f1, .ref f2, .ref f3]
structure GBC (mg : Str → Option Value) (tb : Addr) (t5 : Tok) : Prop where
  g_BODIES : mg "BODIES" = some (.ref tb)
  g_FORM_WIDTH : mg "FORM_WIDTH" = some (.int 2 t5)
noncomputable def SB (K : PySem.W.Frag) (PR Pt f0 f1 f2 f3 : Addr) : Addr → Sp → Prop := fun f sp => ∃ form, form < 4 ∧ f = [f0, f1, f2, f3].getD form f0 ∧ sp = spBody K (fun n bs => bodyB n bs form) (TT2 PR Pt)
section
variable {P : Program} {w : World} {K : PySem.W.Frag} {mg : Str → Option Value} {base : Heap} {Cl : Nat → Addr} {σ : L2.St} {H H' : Hp} {ta tb te : TE} {t1 t2 t3 t4 t5 : Tok}
theorem held_body {PR Pt f : Addr} {fd : FuncData} {k k2 : Nat} {ps : List Str} {c c' : Nat → List Nat → List Int} {pre : Hp → Prop} (ok : FnOk P w K mg base CX0 k f fd ps (spBody K c pre)) (hk : PySem.W.keepIn K (.ref f) = true) (hb : Binds K fd ps []) (hc : c = c') (hp : ∀ H, TT2 PR Pt H → pre H) (hle : k ≤ k2) : HeldX CX0 P w K mg base k2 f (spBody K c' (TT2 PR Pt)) := by
  subst hc
  exact ⟨fd, ps, (ok.mono hle).imp fun vs H Q E ⟨l, n, bs, h1, h2, h3, h4, h5, h6, h7, h8, h9⟩ => ⟨l, n, bs, h1, h2, h3, h4, h5, h6, h7, hp H h8, h9⟩, hk, hb⟩
def spBodyF (K : PySem.W.Frag) (PR Pt : Addr) : Sp := fun vs H Q _ => ∃ (l : Addr) (n : Nat) (bs : List Nat) (form : Nat), vs = [.int (n : Int), .ref l, .int (form : Int)] ∧ 2 ≤ n ∧ n ≤ 16 ∧ SqL K H l (natsV bs) ∧ bs.length ≤ 300 ∧ bs ≠ [] ∧ (∀ s ∈ bs, s < n) ∧ form < 4 ∧ TT2 PR Pt H ∧ RetL ((bodyB n bs form).map V.int) H Q
theorem ok_body {f PR Pt tb f0 f1 f2 f3 : Addr} {fd : FuncData} {k : Nat} (F : Fun K "body" "body" s_body f fd) (B : Bs mg) (T : GB K mg tb f0 f1 f2 f3) (H_make : ∀ f sp, SB K PR Pt f0 f1 f2 f3 f sp → HeldX CX0 P w K mg base 10 f sp) :
    FnOk P w K mg base CX0 (k + 11) f fd ["size", "block", "form"] (spBodyF K PR Pt) := by
  refine F.ok sc_body (fun vs H Q E h => ?_) (fun cdv A outer s H vs Q E hr h => ?_)
  · obtain ⟨l, n, bs, form, rfl, _⟩ := h
    rfl
  · obtain ⟨l, n, bs, form, rfl, hn, hn2, hs, hl, hne, hb, hf, hT, q⟩ := h
    refine ⟨_, (pss_cons (ps_set (i := 3) sc_body.nd rfl (Or.inl rfl) (pe_ix ix_tup (pe_glob (v := (.ref tb)) (by rfl) T.g_BODIES rfl) (pv 2) (fun _ _ => rfl)))
      (pss_one (ps_ret (pe_callR (E := E0) (i := 3) H_make (hr.mono (by omega)) pass0 (pa_cons (pv 0) (pa_cons (pv 1) pa_nil)))))), ?_⟩
    obtain ⟨fa, hfa⟩ : ∃ fa, [f0, f1, f2, f3].getD form f0 = fa := ⟨_, rfl⟩
    have hat : [V.ref f0, V.ref f1, V.ref f2, V.ref f3][form]? = some (.ref fa) := by
      match form, hf, hfa with
      | 0, _, rfl => rfl
      | 1, _, rfl => rfl
      | 2, _, rfl => rfl
      | 3, _, rfl => rfl
    refine q_asg (v := .ref fa) (ev_op ev_c (ev_var rfl) (rv_ixT (T.st _) (atI_nat hat))) fun H1 e1 => ?_
    refine s_retL (el_callR (f := fa) rfl ⟨form, hf, hfa.symm, rfl⟩ (ea2 (ev_var rfl) (ev_var rfl)) fun H2 e2 Q q E => ⟨l, n, bs, rfl, hn, hn2, ex_l (e1.trans e2) hs, hl, hne, hb, tt2_ext (e1.trans e2) hT, q⟩) fun p H2 hp e2 h2 => q p H2 (fresh_back e1 hp) (e1.trans e2) h2
/-! the block as written -/
noncomputable def bLen (n : Nat) (bs : List Nat) (i : Nat) : Nat := (bodyB n bs i).length
/-- the form with the fewest bits, the least of several -/
noncomputable def bestF (n : Nat) (bs : List Nat) : Nat → Nat
  | 0 => 0
  | i + 1 => if bLen n bs i < bLen n bs (bestF n bs i) then i else bestF n bs i
theorem best_lt {n : Nat} {bs : List Nat} : ∀ i, bestF n bs (i + 1) < i + 1
  | 0 => by
    show (if _ then 0 else 0) < 1
    split <;> omega
  | i + 1 => by
    have ih := best_lt (n := n) (bs := bs) i
    show (if bLen n bs (i + 1) < bLen n bs (bestF n bs (i + 1)) then i + 1 else bestF n bs (i + 1)) < i + 1 + 1
    split <;> omega
theorem best_min {n : Nat} {bs : List Nat} : ∀ i, ∀ j, j < i + 1 → bLen n bs (bestF n bs (i + 1)) ≤ bLen n bs j ∧ (j < bestF n bs (i + 1) → bLen n bs (bestF n bs (i + 1)) < bLen n bs j)
  | 0, j, hj => by
    have h1 : bestF n bs 1 < 1 := best_lt (n := n) (bs := bs) 0
    have h0 : bestF n bs 1 = 0 := by omega
    rw [show j = 0 by omega, show bestF n bs (0 + 1) = 0 from h0]
    exact ⟨Nat.le_refl _, fun z => by omega⟩
  | i + 1, j, hj => by
    have hu : bestF n bs (i + 1 + 1) = if bLen n bs (i + 1) < bLen n bs (bestF n bs (i + 1)) then i + 1 else bestF n bs (i + 1) := rfl
    have hb := best_lt (n := n) (bs := bs) i
    by_cases z : bLen n bs (i + 1) < bLen n bs (bestF n bs (i + 1))
    · rw [hu, if_pos z]
      by_cases zj : j = i + 1
      · subst zj
        exact ⟨Nat.le_refl _, fun y => by omega⟩
      · have := best_min (n := n) (bs := bs) i j (by omega)
        exact ⟨by omega, fun y => by omega⟩
    · rw [hu, if_neg z]
      by_cases zj : j = i + 1
      · subst zj
        exact ⟨by omega, fun y => by omega⟩
      · exact best_min i j (by omega)
noncomputable def blockB (n : Nat) (bs : List Nat) : List Int := if bs = [] then [1, 0, 0] else gam (bs.length + 1) ++ bitsL (bestF n bs 4) 2 ++ bodyB n bs (bestF n bs 4)
theorem mb_len (m : Md) (msg : List Nat) : (mbL m msg).length ≤ 5000 := by
  unfold mbL
  have := encW_len m msg
  rw [List.length_append, gam_len]
  have : bl ((encW m msg).length + 1) ≤ 13 := bl_le (by omega) (by omega)
  omega
theorem body_len {n : Nat} {bs : List Nat} (hn : 2 ≤ n) (hn2 : n ≤ 16) (hl : bs.length ≤ 300) (hne : bs ≠ []) (hb : ∀ s ∈ bs, s < n) (i : Nat) : (bodyB n bs i).length ≤ 8000 := by
  unfold bodyB
  have hw : bl (n - 1) ≤ 4 := bl_le (by omega) (by omega)
  split
  · unfold fieldB
    have := flat_len (f := fun s => bitsL s.toNat (bl (n - 1))) (c := 4) (bs.map fun (s : Nat) => (s : Int)) fun x hx => by rw [bits_len]; exact hw
    rw [List.length_map] at this
    omega
  · split
    · unfold prefB
      have := lens_flat hn2 hl hne hb
      have := encP_len (msg := bs) (cnt_lens hn2 hl hne hb).lok
      rw [List.length_append]
      omega
    · split
      · unfold countB
        have hgl : ∀ x ∈ cntL n bs, (gam (x.toNat + 1)).length ≤ 20 := fun x hx => by
          have := cnt_bd hl x hx
          rw [gam_len]
          have : bl (x.toNat + 1) ≤ 10 := bl_le (by omega) (by omega)
          omega
        have hfl := flat_len (f := fun c => gam (c.toNat + 1)) (c := 20) (cntL n bs) hgl
        rw [cnt_len] at hfl
        have := mb_len (cntM n bs) bs
        rw [List.length_append]
        omega
      · exact Nat.le_trans (mb_len _ _) (by decide)
theorem gam_le {m : Nat} (h : m ≤ 300) : (gam (m + 1)).length ≤ 20 := by
  rw [gam_len]
  have : bl (m + 1) ≤ 10 := bl_le (by omega) (by omega)
  omega
def spWBlock (K : PySem.W.Frag) (PR Pt : Addr) : Sp := fun vs H Q _ => ∃ (l : Addr) (n : Nat) (bs : List Nat), vs = [.int (n : Int), .ref l] ∧ 2 ≤ n ∧ n ≤ 16 ∧ SqL K H l (natsV bs) ∧ bs.length ≤ 300 ∧ (∀ s ∈ bs, s < n) ∧ TT2 PR Pt H ∧ RetL ((blockB n bs).map V.int) H Q
theorem ok_write_block {f PR Pt tb f0 f1 f2 f3 : Addr} {fd : FuncData} {k : Nat} (F : Fun K "write_block" "write_block" s_write_block f fd) (B : Bs mg) (T5 : GC mg t1 t2 t3 t4 t5) (TB : GB K mg tb f0 f1 f2 f3) (C_gamma_bits : Cal P w K mg base "gamma_bits" 2 ["n"] (spN gam fun _ => True)) (C_field_bits : Cal P w K mg base "field_bits" 1 ["number", "width"] spBits) (C_body : Cal P w K mg base "body" 11 ["size", "block", "form"] (spBodyF K PR Pt)) :
    FnOk P w K mg base CX0 (k + 12) f fd ["size", "block"] (spWBlock K PR Pt) := by
  refine F.ok sc_write_block (fun vs H Q E h => ?_) (fun cdv A outer s H vs Q E hr h => ?_)
  · obtain ⟨l, n, bs, rfl, _⟩ := h
    rfl
  · obtain ⟨l, n, bs, rfl, hn, hn2, hs, hl, hb, hT, q⟩ := h
    have T : GBC mg tb t5 := ⟨TB.g_BODIES, T5.g_FORM_WIDTH⟩
    refine ⟨_, (pss_cons (ps_set (i := 2) sc_write_block.nd rfl (Or.inl rfl) (pe_callC C_gamma_bits (hr.mono (by omega)) (by rfl) (pa_cons (pe_op op_add (pe_callB call_len_seq (by rfl) B.len PySem.boot_len (pa_cons (pv 1) pa_nil)) pe_int) pa_nil)))
      (pss_cons (ps_if (pt_not (pt_truth (pv 1) (by intro _; rfl))) (pss_one (ps_ret (pe_op op_cat (pv 2) (pe_callC C_field_bits (hr.mono (by omega)) (by rfl) (pa_cons pe_int (pa_cons (pe_glob (v := .int 2) (by rfl) T.g_FORM_WIDTH ⟨_, rfl⟩) pa_nil)))))) pss_nil)
      (pss_cons (ps_setLc (i := 3) rfl sc_write_block.nd rfl rfl (sw_true rfl rfl rfl (by decide +kernel)) (pi_range1 (by rfl) B.range (pa_cons (pe_callB call_len_seq (by rfl) B.len PySem.boot_len (pa_cons (pe_glob (v := (.ref tb)) (by rfl) T.g_BODIES rfl) pa_nil)) pa_nil)) (blkOk_by (own := [("form", 4)]) (N := ["size", "block", "start", "bodies", "form", "counts", "bits"]) (sc := defScope s_write_block) (by decide +kernel)) (fun _ _ _ _ _ => (pg_name (i := 4) sc_write_block.nd rfl (Or.inl rfl))) (fun _ _ _ _ _ => pts_nil) (fun _ _ _ _ _ => (pe_callC C_body (hr.mono (by omega)) (by rfl) (pa_cons (pv 0) (pa_cons (pv 1) (pa_cons (pv 4) pa_nil))))))
      (pss_cons (ps_setLc (i := 5) rfl sc_write_block.nd rfl rfl (sw_true rfl rfl rfl (by decide +kernel)) (pi_list (pv 3)) (blkOk_by (own := [("bits", 6)]) (N := ["size", "block", "start", "bodies", "form", "counts", "bits"]) (sc := defScope s_write_block) (by decide +kernel)) (fun _ _ _ _ _ => (pg_name (i := 6) sc_write_block.nd rfl (Or.inl rfl))) (fun _ _ _ _ _ => pts_nil) (fun _ _ _ _ _ => (pe_callB (len_seqK (K := K) rfl) (by rfl) B.len PySem.boot_len (pa_cons (pv 6) pa_nil))))
      (pss_cons (ps_set (i := 4) sc_write_block.nd rfl (Or.inl rfl) (pe_bm PySem.F.plainAttrs_list PySem.F.slot_list_index PySem.F.type_list_index mt_index (pv 5) (pa_cons (pe_callB (cr_min rfl) (by rfl) B.min (by decide +kernel) (pa_cons (pv 5) pa_nil)) pa_nil)))
      (pss_one (ps_ret (pe_op op_cat (pe_op op_cat (pv 2) (pe_callC C_field_bits (hr.mono (by omega)) (by rfl) (pa_cons (pv 4) (pa_cons (pe_glob (v := .int 2) (by rfl) T.g_FORM_WIDTH ⟨_, rfl⟩) pa_nil)))) (pe_ix ix_list (pv 3) (pv 4) (fun _ _ => rfl)))))))))), ?_⟩
    have hnl : (natsV bs).length = bs.length := List.length_map _
    have hgl := gam_le hl
    refine q_asgL (el_n (n := bs.length + 1) (ev_is (ev_add (ev_len (ev_var rfl) hs) ev_c) (by rw [hnl]; congr 1)) (by omega) (by omega) trivial) fun ps H1 hps e1 h1 => ?_
    refine q_when (b := !(!(natsV bs).isEmpty)) (et_not (et_truL (ev_var rfl) (ex_l e1 hs))) (fun hb1 H2 e2 => ?_) (fun hb1 H2 e2 => ?_)
    · have h0 : bs = [] := by
        cases bs with
        | nil => rfl
        | cons a r => simp [natsV] at hb1
      subst h0
      refine s_retL (xs := (blockB n []).map V.int) ?_ fun p H3 hp e3 h3 => q p H3 (fresh_back (e1.trans e2) hp) ((e1.trans e2).trans e3) h3
      have eB : blockB n [] = gam 1 ++ bitsL 0 2 := by
        unfold blockB
        rw [if_pos rfl]
        decide +kernel
      rw [eB, List.map_append]
      exact el_cat3 (ev_var rfl) (e2 _ _ h1) (el_bits (x := 0) (l := 2) ev_c ev_c rfl (by omega)) (by decide +kernel)
    · have hne : bs ≠ [] := fun z => by subst z; simp [natsV] at hb1
      have e02 := e1.trans e2
      have hbl := fun i => body_len hn hn2 hl hne hb i
      refine q_asgP (ep_lcLL (fun i => bodyB n bs i) (n := 4) (ea1 (ev_is (ev_lenT ev_c (TB.st _)) rfl)) (by decide) (fun x => rfl) fun i H3 e3 hi => el_call (ea3 (ev_var rfl) (ev_var rfl) (ev_var rfl)) fun H4 e4 Q q E => ⟨l, n, bs, i, rfl, hn, hn2, ex_l ((e02.trans e3).trans e4) hs, hl, hne, hb, hi, tt2_ext ((e02.trans e3).trans e4) hT, q⟩) fun v H3 e3 ⟨pb, ev, hpb, hLL⟩ => ?_
      subst ev
      have e03 := e02.trans e3
      obtain ⟨rs, hr1, hr2, hr3⟩ := hLL
      have hLL : LL H3 pb ((List.range 4).map fun i => bodyB n bs i) := ⟨rs, hr1, hr2, hr3⟩
      rw [List.length_map, List.length_range] at hr2
      have hrr : rs.map V.ref = (List.range 4).map fun i => V.ref (rs.getD i 0) := by
        refine List.ext_getElem (by rw [List.length_map, List.length_map, List.length_range, hr2]) fun i a1 a2 => ?_
        rw [List.getElem_map, List.getElem_map, List.getElem_range, List.getD_eq_getElem?_getD, List.getElem?_eq_getElem]
        rfl
      have hat : ∀ i, i < 4 → H3 (rs.getD i 0) = some (.lst ((bodyB n bs i).map V.int)) := fun i hi => by
        refine hr3 i _ _ ?_ (by rw [List.getElem?_map, List.getElem?_range hi]; rfl)
        rw [List.getD_eq_getElem?_getD, List.getElem?_eq_getElem (by omega)]
        rfl
      refine q_asgL (xs := ((List.range 4).map fun i => (bLen n bs i : Int)).map V.int) ?_ fun pc H4 hpc e4 h4 => ?_
      · have hg : given (rs.map V.ref).length (fun _ => true) (fun i => V.int (bLen n bs i : Int)) = ((List.range 4).map fun i => (bLen n bs i : Int)).map V.int := by
          rw [given_all, List.length_map, hr2, List.map_map]
          rfl
        rw [← hg]
        refine el_lcL _ _ (ev_var rfl) (sq_of hr1) (by rw [List.length_map]; omega) (fun x => rfl) (fun i x H5 e5 hx => et_yes) (fun i x H5 e5 hx _ => ?_)
        have hi : i < 4 := by
          have := (List.getElem?_eq_some_iff.mp hx).1
          rw [List.length_map] at this
          omega
        rw [hrr, List.getElem?_map, List.getElem?_range hi] at hx
        obtain rfl := (Option.some.inj hx).symm
        exact ev_is (ev_len (ev_var rfl) (sq_of (e5 _ _ (hat i hi)))) (by rw [List.length_map]; rfl)
      · have hb4 := best_lt (n := n) (bs := bs) 3
        have hbm := best_min (n := n) (bs := bs) 3
        obtain ⟨bf, hbf⟩ : ∃ bf, bf = bestF n bs (3 + 1) := ⟨_, rfl⟩
        rw [← hbf] at hb4 hbm
        have hget : ∀ i, i < 4 → ((List.range 4).map fun i => (bLen n bs i : Int))[i]? = some (bLen n bs i : Int) := fun i hi => by
          rw [List.getElem?_map, List.getElem?_range hi]
          rfl
        refine q_asg (v := .int (bf : Int)) (ev_idxI (m := (bLen n bs bf : Int)) (ev_var rfl) (sq_of h4) (ev_minL (ev_var rfl) (sq_of h4) (List.mem_map.mpr ⟨bf, List.mem_range.mpr hb4, rfl⟩) fun y hy => ?_) (hget bf hb4) fun i x hi hx => ?_) fun H5 e5 => ?_
        · obtain ⟨j, hj, rfl⟩ := List.mem_map.mp hy
          have := (hbm j (List.mem_range.mp hj)).1
          omega
        · rw [hget i (by omega)] at hx
          have := (hbm i (by omega)).2 hi
          have := Option.some.inj hx
          omega
        · have e05 := ((e03.trans e4).trans e5)
          refine s_retL (xs := (blockB n bs).map V.int) ?_ fun p H6 hp e6 h6 => q p H6 (fresh_back e05 hp) (e05.trans e6) h6
          unfold blockB
          rw [if_neg hne, show bestF n bs 4 = bf from hbf.symm, List.map_append, List.map_append]
          obtain ⟨r, hr, hre⟩ := (hLL.ext (e4.trans e5)).at_ (j := bf) (c := bodyB n bs bf) (by rw [List.getElem?_map, List.getElem?_range hb4]; rfl)
          have := hbl bf
          refine el_cat (el_cat3 (ev_var rfl) (((e2.trans e3).trans (e4.trans e5)) _ _ h1) (el_bits (x := bf) (l := 2) (ev_var rfl) ev_c rfl (by omega)) ?_) (hre (Ex.refl _) (ev_var rfl) (ev_var (v := .int (bf : Int)) rfl) rfl) hr ?_
          · rw [List.length_map, List.length_map, bits_len]
            omega
          · rw [List.length_append, List.length_map, List.length_map, List.length_map, bits_len]
            omega
end
end K16
set_option Elab.async false
set_option linter.all false
set_option maxRecDepth 100000
set_option maxHeartbeats 4000000
set_option exponentiation.threshold 20000
namespace K16
open PySem PySem.Spec PyProof.Rows L2 StX GX KC KQ KW Evl M08 M09 M10 M01 M14 M15 M16
abbrev scCnt : Scope := { kind := .function, names := [(".0", .local), ("k", .cell), ("len", .globalImplicit), ("block", .cell)], isGenerator := false, isCoroutine := false }
theorem cnt_given (bs : List Nat) (k : Nat) (v : Nat → V) : (given (natsV bs).length (fun i => decide ((bs.getD i 0 : Int) = (k : Int))) v).length = (bs.filter fun s => decide (s = k)).length := by
  unfold given
  rw [List.length_map, List.length_map]
  have e : bs = (List.range bs.length).map fun i => bs.getD i 0 := by
    refine List.ext_getElem (by simp) fun i h1 h2 => ?_
    rw [List.getElem_map, List.getElem_range, List.getD_eq_getElem?_getD, List.getElem?_eq_getElem h1]
    rfl
  conv => rhs; rw [e, List.filter_map, List.length_map]
  congr 1
  refine List.filter_congr fun i _ => ?_
  show _ = decide (bs.getD i 0 = k)
  exact decide_eq_decide.mpr (by omega)
theorem nats_at {bs : List Nat} {i : Nat} {x : V} (h : (natsV bs)[i]? = some x) : x = .int ((bs.getD i 0 : Nat) : Int) ∧ i < bs.length := by
  have hi : i < bs.length := by
    have := (List.getElem?_eq_some_iff.mp h).1
    rwa [List.length_map] at this
  refine ⟨?_, hi⟩
  rw [List.getElem?_map, List.getElem?_eq_getElem hi] at h
  rw [List.getD_eq_getElem?_getD, List.getElem?_eq_getElem hi]
  exact (Option.some.inj h).symm
theorem bits4 {x : Int} (h : 0 ≤ x) : (bitsL x.toNat 4).map V.int = [.int (x / 8 % 2), .int (x / 4 % 2), .int (x / 2 % 2), .int (x % 2)] := by
  rw [bitsV]
  have e : ((x.toNat : Nat) : Int) = x := by omega
  rw [e]
  show [V.int (x / 2 ^ 3 % 2), V.int (x / 2 ^ 2 % 2), V.int (x / 2 ^ 1 % 2), V.int (x / 2 ^ 0 % 2)] = _
  rw [show (2 : Int) ^ 0 = 1 from rfl, Int.ediv_one]
  rfl
theorem snocM (xs : List Int) (f : Int → List Int) {i : Nat} (hi : i < xs.length) : ((xs.take (i + 1)).flatMap f) = ((xs.take i).flatMap f) ++ f (xs.getD i 0) := by
  rw [List.getD_eq_getElem?_getD, List.getElem?_eq_getElem hi, (List.take_append_getElem hi).symm, List.flatMap_append]
  simp
theorem takeFlat_le (xs : List Int) (f : Int → List Int) {c : Nat} (h : ∀ x ∈ xs, (f x).length ≤ c) (i : Nat) : ((xs.take i).flatMap f).length ≤ xs.length * c := by
  have h1 := flat_len (f := f) (c := c) (xs.take i) fun x hx => h x (List.mem_of_mem_take hx)
  have h2 : (xs.take i).length * c ≤ xs.length * c := Nat.mul_le_mul_right _ (by rw [List.length_take]; omega)
  omega
section
variable {P : Program} {w : World} {K : PySem.W.Frag} {mg : Str → Option Value} {base : Heap} {Cl : Nat → Addr} {σ : L2.St} {H H' : Hp} {ta tb te : TE} {t1 t2 t3 t4 t5 : Tok} {t : TA}
theorem el_encL {E : XK} {l : Addr} {n : Nat} {bs : List Nat} (h1 : 2 ≤ n) (h2 : n ≤ 16) (hl : bs.length ≤ 300) (h : ∀ s ∈ bs, s < n) (hs : SqL K H l (natsV bs)) (ha : EvA t σ H [.int (n : Int), .int 8, .int 1000]) (hb : Ev tb σ H (.ref l)) :
    EvL (tCall (spEncode K Cl) [] E (tCons (tMake (Cl 1) (spInitL Cl) [] E0 t) (tCons tb tNil))) σ H ((encW (lrnM n) bs).map V.int) := fun H1 e Q q => by
    show tMake (Cl 1) (spInitL Cl) [] E0 t σ H1 (fun v Ha => tb σ Ha fun u Hb => spEncode K Cl ([v, u] ++ []) Hb Q E)
    refine (ep_learner (Cl := Cl) ha (by omega)) H1 e _ fun v H2 e2 ⟨p, l2, ev, hat, _, _⟩ => ?_
    subst ev
    refine hb H2 (e.trans e2) _ fun H3 e3 => ?_
    have hg := lrn_good h1 h2
    refine ⟨p, l, lrnM n, _, n, bs, rfl, MAt.ext e3 (mat_l hat), hg.ok, by rw [lrn_fresh]; exact hg, ex_l ((e.trans e2).trans e3) hs, hl, by rw [lrn_fresh]; exact lrn_msg h, fun e9 he h9 p2 H4 hp e4 h4 => q p2 H4 (fresh_back (e2.trans e3) hp) ((e2.trans e3).trans e4) (by rw [encW_eq (by rw [lrn_fresh] at he; exact he) h9]; rw [lrn_fresh] at h4; exact h4)⟩
theorem el_encC {E : XK} {a l : Addr} {n : Nat} {bs : List Nat} (h1 : 2 ≤ n) (h2 : n ≤ 16) (hl : bs.length ≤ 300) (hne : bs ≠ []) (h : ∀ s ∈ bs, s < n) (hs : SqL K H l (natsV bs)) (ha : EvA t σ H [.ref a]) (hca : SqL K H a ((cntL n bs).map V.int)) (hb : Ev tb σ H (.ref l)) :
    EvL (tCall (spEncode K Cl) [] E (tCons (tMake (Cl 0) (spInitC K Cl) [] E0 t) (tCons tb tNil))) σ H ((encW (cntM n bs) bs).map V.int) := fun H1 e Q q => by
    show tMake (Cl 0) (spInitC K Cl) [] E0 t σ H1 (fun v Ha => tb σ Ha fun u Hb => spEncode K Cl ([v, u] ++ []) Hb Q E)
    refine (ep_counts (Cl := Cl) (K := K) ha hca) H1 e _ fun v H2 e2 ⟨p, l2, ev, hat, _, _⟩ => ?_
    subst ev
    refine hb H2 (e.trans e2) _ fun H3 e3 => ?_
    have hg := cnt_good h1 h2 hl hne h
    refine ⟨p, l, cntM n bs, _, n, bs, rfl, MAt.ext e3 (.inl ⟨rfl, cntL n bs, l2, rfl, rfl, hat, rfl⟩), hg.ok, by rw [cnt_fresh]; exact hg, ex_l ((e.trans e2).trans e3) hs, hl, by rw [cnt_fresh]; exact cnt_msg h, fun e9 he h9 p2 H4 hp e4 h4 => q p2 H4 (fresh_back (e2.trans e3) hp) ((e2.trans e3).trans e4) (by rw [encW_eq (by rw [cnt_fresh] at he; exact he) h9]; rw [cnt_fresh] at h4; exact h4)⟩
theorem ok_law_body {f PR Pt : Addr} {fd : FuncData} {k : Nat} (F : Fun K "_law_body" "_law_body" s_law_body f fd) (B : Bs mg) (N_Counts : CalM P w K mg base "Counts" (Cl 0) 1 ["self", "weights"] (spInitC K Cl)) (N_Learner : CalM P w K mg base "Learner" (Cl 1) 1 ["self", "size", "step", "limit"] (spInitL Cl))
    (C_law_width : Cal P w K mg base "_law_width" 1 ["size"] spLWidth) (C_law_lengths : Cal P w K mg base "_law_lengths" 9 ["counts"] (spBLens K PR)) (C_write_symbols : Cal P w K mg base "write_symbols" 8 ["lengths", "message"] (K16P.spWrite K Pt)) (C_encode_message : Cal P w K mg base "encode_message" 7 ["model", "message"] (spEncode K Cl)) (C_law_gamma : Cal P w K mg base "_law_gamma" 1 ["n"] (spN gam fun n => n < 2 ^ 20)) :
    FnOk P w K mg base CX0 (k + 10) f fd ["size", "block", "form"] (spBodyF K PR Pt) := by
  refine F.ok sc_law_body (fun vs H Q E h => ?_) (fun cdv A outer s H vs Q E hr h => ?_)
  · obtain ⟨l, n, bs, form, rfl, _⟩ := h
    rfl
  · obtain ⟨l, n, bs, form, rfl, hn, hn2, hs, hl, hne, hb, hf, hT, q⟩ := h
    refine ⟨_, (pss_cons (ps_set (i := 3) sc_law_body.nd rfl (Or.inr rfl) (pe_callC C_law_width (hr.mono (by omega)) (by rfl) (pa_cons (pv 0) pa_nil)))
      (pss_cons (ps_set (i := 4) sc_law_body.nd rfl (Or.inl rfl) (pe_lst pa_nil))
      (pss_cons (ps_if (pt_cmpR op_eq (pv 2) pe_int (nomark _)) (pss_cons (ps_for PassesOwn.never rfl (pi_list (pv 1)) (pg_name (i := 5) sc_law_body.nd rfl (Or.inr rfl)) (pss_one (ps_set (i := 4) sc_law_body.nd rfl (Or.inl rfl) (pe_op op_cat (pv 4) (pe_lc rfl sc_law_body.nd (pi_range1 (by rfl) B.range (pa_cons (pv 3) pa_nil)) (blkOk_by (own := [("k", 6)]) (N := ["size", "block", "form", "width", "bits", "symbol", "k", "counts", "one", "lengths", "length", "code", "count"]) (sc := defScope s_law_body) (by decide +kernel)) (fun _ _ _ _ _ => (pg_name (i := 6) sc_law_body.nd rfl (Or.inl rfl))) (fun _ _ _ _ _ => pts_nil) (fun _ _ _ _ _ => (pe_op op_mod (pe_op op_fdiv (pv 5) (pe_op op_shl pe_int (pe_op op_sub (pe_op op_sub (pv 3) pe_int) (pv 6)))) pe_int)))))))
      (pss_one (ps_ret (pv 4)))) pss_nil)
      (pss_cons (ps_setLc (i := 7) rfl sc_law_body.nd rfl rfl (sw_true rfl rfl rfl (by decide +kernel)) (pi_range1 (by rfl) B.range (pa_cons (pv 0) pa_nil)) (blkOk_by (own := [("k", 6)]) (N := ["size", "block", "form", "width", "bits", "symbol", "k", "counts", "one", "lengths", "length", "code", "count"]) (sc := defScope s_law_body) (by decide +kernel)) (fun _ _ _ _ _ => (pg_name (i := 6) sc_law_body.nd rfl (Or.inr rfl))) (fun _ _ _ _ _ => pts_nil) (fun _ _ _ _ _ => (pe_callB (len_seqK (K := K) rfl) (by rfl) B.len PySem.boot_len (pa_cons (pe_lc rfl sc_law_body.nd (pi_listK (K := K) rfl (pv 1)) (blkOk_by (own := [("one", 8)]) (N := ["size", "block", "form", "width", "bits", "symbol", "k", "counts", "one", "lengths", "length", "code", "count"]) (sc := scCnt) (by decide +kernel)) (fun _ _ _ _ _ => (pg_name (i := 8) sc_law_body.nd rfl (Or.inl rfl))) (fun _ _ _ _ _ => (pts_one (pt_cmpR op_eq (pv 8) (pv 6) (nomark _)))) (fun _ _ _ _ _ => (pv 8))) pa_nil))))
      (pss_cons (ps_if (pt_cmpR op_eq (pv 2) pe_int (nomark _)) (pss_cons (ps_set (i := 9) sc_law_body.nd rfl (Or.inl rfl) (pe_callC C_law_lengths (hr.mono (by omega)) (by rfl) (pa_cons (pv 7) pa_nil)))
      (pss_cons (ps_for PassesOwn.never rfl (pi_list (pv 9)) (pg_name (i := 10) sc_law_body.nd rfl (Or.inl rfl)) (pss_one (ps_set (i := 4) sc_law_body.nd rfl (Or.inl rfl) (pe_op op_cat (pv 4) (pe_lst (pa_cons (pe_op op_mod (pe_op op_fdiv (pv 10) pe_int) pe_int) (pa_cons (pe_op op_mod (pe_op op_fdiv (pv 10) pe_int) pe_int) (pa_cons (pe_op op_mod (pe_op op_fdiv (pv 10) pe_int) pe_int) (pa_cons (pe_op op_mod (pv 10) pe_int) pa_nil)))))))))
      (pss_one (ps_ret (pe_op op_cat (pv 4) (pe_callC C_write_symbols (hr.mono (by omega)) (by rfl) (pa_cons (pv 9) (pa_cons (pv 1) pa_nil)))))))) pss_nil)
      (pss_cons (ps_set (i := 11) sc_law_body.nd rfl (Or.inl rfl) (pe_callC C_encode_message (hr.mono (by omega)) (by rfl) (pa_cons (pe_makeC N_Learner (hr.mono (by omega)) (by rfl) (pa_cons (pv 0) (pa_cons pe_int (pa_cons pe_int pa_nil)))) (pa_cons (pv 1) pa_nil))))
      (pss_cons (ps_if (pt_cmpR op_eq (pv 2) pe_int (nomark _)) (pss_cons (ps_for PassesOwn.never rfl (pi_list (pv 7)) (pg_name (i := 12) sc_law_body.nd rfl (Or.inl rfl)) (pss_one (ps_set (i := 4) sc_law_body.nd rfl (Or.inl rfl) (pe_op op_cat (pv 4) (pe_callC C_law_gamma (hr.mono (by omega)) (by rfl) (pa_cons (pe_op op_add (pv 12) pe_int) pa_nil))))))
      (pss_one (ps_set (i := 11) sc_law_body.nd rfl (Or.inl rfl) (pe_callC C_encode_message (hr.mono (by omega)) (by rfl) (pa_cons (pe_makeC N_Counts (hr.mono (by omega)) (by rfl) (pa_cons (pv 7) pa_nil)) (pa_cons (pv 1) pa_nil)))))) pss_nil)
      (pss_one (ps_ret (pe_op op_cat (pe_op op_cat (pv 4) (pe_callC C_law_gamma (hr.mono (by omega)) (by rfl) (pa_cons (pe_op op_add (pe_callB call_len_seq (by rfl) B.len PySem.boot_len (pa_cons (pv 11) pa_nil)) pe_int) pa_nil))) (pv 11))))))))))), ?_⟩
    have hnl : (natsV bs).length = bs.length := List.length_map _
    have hw : bl (n - 1) ≤ 4 := bl_le (by omega) (by omega)
    refine q_asg (v := .int (bl (n - 1) : Nat)) (ev_call (ea1 (ev_var rfl)) fun H1 e1 Q q E => ⟨n, rfl, hn, hn2, q⟩) fun H1 e1 => ?_
    refine q_asgL (el_lst ea_nil (by decide)) fun pb H2 hpb e2 h2 => ?_
    have e02 := e1.trans e2
    have hpb0 := fresh_back e1 hpb
    refine q_when (b := decide (form = 0)) (et_is (et_test (ev_eq (ev_var (v := .int (form : Int)) rfl) ev_c)) (decide_eq_decide.mpr (by omega))) (fun hb0 H3 e3 => ?_) (fun hb0 H3 e3 => ?_)
    · have hf0 := of_decide_eq_true hb0
      subst hf0
      have e03 := e02.trans e3
      have hln : ∀ x ∈ bs.map (fun (s : Nat) => (s : Int)), (bitsL x.toNat (bl (n - 1))).length ≤ 4 := fun x _ => by rw [bits_len]; exact hw
      refine q_forLn (ev_var rfl) (ex_l e03 hs) (fun i σ' H' => ∃ (p : Addr) (x : Option V), σ' = [some (.int (n : Int)), some (.ref l), some (.int ((0 : Nat) : Int)), some (.int (bl (n - 1) : Nat)), some (.ref p), x, none, none, none, none, none, none, none] ∧ Ex H H' ∧ H p = none ∧ H' p = some (.lst ((((bs.map fun (s : Nat) => (s : Int)).take i).flatMap fun s => bitsL s.toNat (bl (n - 1))).map V.int)))
        (fun H4 e4 => ⟨pb, none, rfl, e03.trans e4, hpb0, (e3.trans e4) _ _ h2⟩) (fun i σ' H' _ ⟨_, _, _, e, _⟩ => ex_l e hs) ?_ ?_
      · rintro i v σ' H' hv ⟨p, x, rfl, ex, hp, hl'⟩
        obtain ⟨rfl, hi⟩ := nats_at hv
        have hi' : i < (bs.map fun (s : Nat) => (s : Int)).length := by rw [List.length_map]; exact hi
        have hgx : (bs.map fun (s : Nat) => (s : Int)).getD i 0 = ((bs.getD i 0 : Nat) : Int) := by
          rw [List.getD_eq_getElem?_getD, List.getElem?_map, List.getD_eq_getElem?_getD]
          cases bs[i]? <;> rfl
        have hstep := snocM (bs.map fun (s : Nat) => (s : Int)) (fun s => bitsL s.toNat (bl (n - 1))) hi'
        rw [hgx, Int.toNat_natCast] at hstep
        have htl := takeFlat_le (bs.map fun (s : Nat) => (s : Int)) (fun s => bitsL s.toNat (bl (n - 1))) hln i
        rw [List.length_map] at htl
        generalize bs.getD i 0 = sy at *
        refine s_asgL (xs := ((((bs.map fun (s : Nat) => (s : Int)).take (i + 1)).flatMap fun s => bitsL s.toNat (bl (n - 1))).map V.int)) ?_ fun p2 H3 hp2 e3 h3 => ⟨p2, _, rfl, ex.trans e3, fresh_back ex hp2, h3⟩
        rw [hstep, List.map_append, bitsV]
        refine el_cat3 (ev_var rfl) hl' (el_lcN _ (ea1 (ev_var rfl)) rfl (by omega) (fun x => rfl) fun j H9 e9 hj => ?_) (by rw [List.length_map, List.length_map, List.length_range]; omega)
        have hp8 : ∀ m : Nat, m ≤ 4 → (0 : Int) < 2 ^ m ∧ (2 : Int) ^ m < 1073741824 := fun m hm => by
          match m, hm with
          | 0, _ => decide
          | 1, _ => decide
          | 2, _ => decide
          | 3, _ => decide
          | 4, _ => decide
        obtain ⟨d1, d2⟩ := hp8 (bl (n - 1) - 1 - j) (by omega)
        exact ev_op (ev_op (ev_var (v := .int (sy : Int)) rfl) (ev_shl1 (m := bl (n - 1) - 1 - j) (ev_sub (ev_sub (ev_var (v := .int (bl (n - 1) : Int)) rfl) ev_c) (ev_var (v := .int (j : Int)) rfl)) (by omega) (by omega)) (rv_div d1 d2)) ev_c (rv_mod (by decide))
      · rintro σ' H' ⟨p, x, rfl, ex, hp, hl'⟩
        refine s_ret (ev_var rfl) fun H4 e4 => q p H4 hp (ex.trans e4) (e4 _ _ ?_)
        rw [hl', hnl, List.take_of_length_le (by rw [List.length_map]; exact Nat.le_refl _)]
        rfl
    · have hf0 := of_decide_eq_false hb0
      have e03 := e02.trans e3
      refine q_asgL (xs := (cntL n bs).map V.int) ?_ fun pc H4 hpc e4 h4 => ?_
      · unfold cntL
        rw [List.map_map]
        refine el_lcN _ (ea1 (ev_var rfl)) rfl (by omega) (fun x => rfl) fun i H9 e9 hi => ?_
        refine ev_is (ev_lenN (el_lcL (fun j => decide ((bs.getD j 0 : Int) = (i : Int))) (fun j => .int ((bs.getD j 0 : Nat) : Int)) (ev_var rfl) (ex_l (e03.trans e9) hs) (by omega) (fun x => rfl) (fun j x H5 e5 hx => ?_) fun j x H5 e5 hx _ => ?_)) ?_
        · obtain ⟨rfl, _⟩ := nats_at hx
          exact et_test (ev_eq (ev_var rfl) (ev_var rfl))
        · obtain ⟨rfl, _⟩ := nats_at hx
          exact ev_var rfl
        · show V.int _ = V.int _
          rw [cnt_given]
      · have e04 := e03.trans e4
        have g := cnt_lens hn2 hl hne hb
        have hT4 := tt2_ext e04 hT
        refine q_when (b := decide (form = 1)) (et_is (et_test (ev_eq (ev_var (v := .int (form : Int)) rfl) ev_c)) (decide_eq_decide.mpr (by omega))) (fun hb1 H5 e5 => ?_) (fun hb1 H5 e5 => ?_)
        · have hf1 := of_decide_eq_true hb1
          subst hf1
          have e05 := e04.trans e5
          refine q_asgL (el_call (ea1 (ev_var rfl)) fun H6 e6 Q q E => ⟨pc, cntL n bs, rfl, sq_of ((e5.trans e6) _ _ h4), by rw [cnt_len]; exact hn2, fun x hx => by have := cnt_bd hl x hx; omega, cnt_occ1 hne hb, (e05.trans e6) _ _ hT.1, q⟩) fun pl H6 hpl e6 h6 => ?_
          obtain ⟨ls, hls⟩ : ∃ ls, ls = lensB (cntL n bs) := ⟨_, rfl⟩
          have hwr := @el_write K
          rw [← hls] at g h6
          have hll : ls.length ≤ 16 := by rw [g.len, cnt_len]; exact hn2
          have hlen4 : ∀ x ∈ ls, (bitsL x.toNat 4).length ≤ 4 := fun x _ => by rw [bits_len]; exact Nat.le_refl _
          have e06 := e05.trans e6
          refine q_forLn (ev_var rfl) (sq_of h6) (fun i σ' H' => ∃ (p : Addr) (x : Option V), σ' = [some (.int (n : Int)), some (.ref l), some (.int ((1 : Nat) : Int)), some (.int (bl (n - 1) : Nat)), some (.ref p), none, none, some (.ref pc), none, some (.ref pl), x, none, none] ∧ Ex H H' ∧ H' pl = some (.lst (ls.map V.int)) ∧ H' p = some (.lst (((ls.take i).flatMap fun s => bitsL s.toNat 4).map V.int)))
            (fun H7 e7 => ⟨pb, none, rfl, e06.trans e7, e7 _ _ h6, (((e3.trans e4).trans (e5.trans e6)).trans e7) _ _ h2⟩) (fun i σ' H' _ ⟨_, _, _, _, z, _⟩ => sq_of z) ?_ ?_
          · rintro i v σ' H' hv ⟨p, x, rfl, ex, hpl', hl'⟩
            have hi : i < ls.length := by
              have := (List.getElem?_eq_some_iff.mp hv).1
              rwa [List.length_map] at this
            rw [int_at hi] at hv
            obtain rfl := Option.some.inj hv
            have hstep := snocM ls (fun s => bitsL s.toNat 4) hi
            have htl := takeFlat_le ls (fun s => bitsL s.toNat 4) hlen4 i
            have hx0 : 0 ≤ ls.getD i 0 := by
              rw [List.getD_eq_getElem?_getD, List.getElem?_eq_getElem hi]
              exact (g.bd _ (List.getElem_mem hi)).1
            generalize ls.getD i 0 = sy at *
            refine s_asgL (xs := ((ls.take (i + 1)).flatMap fun s => bitsL s.toNat 4).map V.int) ?_ fun p2 H3 hp2 e3 h3 => ⟨p2, _, rfl, ex.trans e3, e3 _ _ hpl', h3⟩
            rw [hstep, List.map_append, bits4 hx0]
            refine el_cat3 (ev_var rfl) hl' (el_lst (ea_cons (ev_op (ev_op (ev_var rfl) ev_c (rv_div (by decide) (by decide))) ev_c (rv_mod (by decide))) (ea3 (ev_op (ev_op (ev_var rfl) ev_c (rv_div (by decide) (by decide))) ev_c (rv_mod (by decide))) (ev_op (ev_op (ev_var rfl) ev_c (rv_div (by decide) (by decide))) ev_c (rv_mod (by decide))) (ev_op (ev_var rfl) ev_c (rv_mod (by decide))))) (by show 4 ≤ 100000; decide)) (by rw [List.length_map]; show _ + 4 ≤ 100000; omega)
          · rintro σ' H' ⟨p, x, rfl, ex, hpl', hl'⟩
            rw [List.length_map, List.take_length] at hl'
            subst hls
            refine s_retL (xs := (prefB n bs).map V.int) ?_ fun p2 H3 hp2 e3 h3 => q p2 H3 (fresh_back ex hp2) (ex.trans e3) h3
            unfold prefB
            rw [List.map_append]
            refine el_cat3 (ev_var rfl) hl' (hwr hn2 hl hne hb (ev_var rfl) (ev_var rfl) (sq_of hpl') (ex_l ex hs) (ex _ _ hT.2)) ?_
            have := lens_flat hn2 hl hne hb
            have := encP_len (msg := bs) g.lok
            rw [List.length_map, List.length_map]
            omega
        · have hf1 := of_decide_eq_false hb1
          have e05 := e04.trans e5
          refine q_asgL (el_encL hn hn2 hl hb (ex_l e05 hs) (ea3 (ev_var rfl) ev_c ev_c) (ev_var rfl)) fun pe H6 hpe e6 h6 => ?_
          have e06 := e05.trans e6
          have h46 := (e5.trans e6) _ _ h4
          have h26 := ((e3.trans e4).trans (e5.trans e6)) _ _ h2
          refine q_mid (b := decide (form = 2)) (fun σ' H' => ∃ (p pe : Addr) (x : Option V) (zs cs : List Int), σ' = [some (.int (n : Int)), some (.ref l), some (.int (form : Int)), some (.int (bl (n - 1) : Nat)), some (.ref p), none, none, some (.ref pc), none, none, none, some (.ref pe), x] ∧ Ex H H' ∧ H' p = some (.lst (zs.map V.int)) ∧ H' pe = some (.lst (cs.map V.int)) ∧ zs.length ≤ 400 ∧ cs.length ≤ 4001 ∧ bodyB n bs form = zs ++ (gam (cs.length + 1) ++ cs))
            (et_is (et_test (ev_eq (ev_var (v := .int (form : Int)) rfl) ev_c)) (decide_eq_decide.mpr (by omega))) (fun hb2 H7 e7 D' nx => ?_) (fun hb2 H7 e7 => ?_) ?_
          · have hf2 := of_decide_eq_true hb2
            subst hf2
            have e07 := e06.trans e7
            have hgl : ∀ x ∈ cntL n bs, (gam (x.toNat + 1)).length ≤ 20 := fun x hx => by
              have := cnt_bd hl x hx
              rw [gam_len]
              have : bl (x.toNat + 1) ≤ 10 := bl_le (by omega) (by omega)
              omega
            refine q_forLn (ev_var rfl) (sq_of (e7 _ _ h46)) (fun i σ' H' => ∃ (p : Addr) (x : Option V), σ' = [some (.int (n : Int)), some (.ref l), some (.int ((2 : Nat) : Int)), some (.int (bl (n - 1) : Nat)), some (.ref p), none, none, some (.ref pc), none, none, none, some (.ref pe), x] ∧ Ex H H' ∧ H' pc = some (.lst ((cntL n bs).map V.int)) ∧ H' p = some (.lst ((((cntL n bs).take i).flatMap fun c => gam (c.toNat + 1)).map V.int)))
              (fun H8 e8 => ⟨pb, none, rfl, e07.trans e8, (e7.trans e8) _ _ h46, (e7.trans e8) _ _ h26⟩) (fun i σ' H' _ ⟨_, _, _, _, z, _⟩ => sq_of z) ?_ ?_
            · rintro i v σ' H' hv ⟨p, x, rfl, ex, hpc', hl'⟩
              have hi : i < (cntL n bs).length := by
                have := (List.getElem?_eq_some_iff.mp hv).1
                rwa [List.length_map] at this
              rw [int_at hi] at hv
              obtain rfl := Option.some.inj hv
              have hstep := snocM (cntL n bs) (fun c => gam (c.toNat + 1)) hi
              have htl := takeFlat_le (cntL n bs) (fun c => gam (c.toNat + 1)) hgl i
              rw [cnt_len] at htl
              have hx0 : 0 ≤ (cntL n bs).getD i 0 ∧ (cntL n bs).getD i 0 ≤ 300 := by
                rw [List.getD_eq_getElem?_getD, List.getElem?_eq_getElem hi]
                exact cnt_bd hl _ (List.getElem_mem hi)
              have hgy : (gam (((cntL n bs).getD i 0).toNat + 1)).length ≤ 20 := gam_le (by omega)
              generalize (cntL n bs).getD i 0 = sy at *
              refine s_asgL (xs := (((cntL n bs).take (i + 1)).flatMap fun c => gam (c.toNat + 1)).map V.int) ?_ fun p2 H3 hp2 e3 h3 => ⟨p2, _, rfl, ex.trans e3, e3 _ _ hpc', h3⟩
              rw [hstep, List.map_append]
              exact el_cat3 (ev_var rfl) hl' (el_n (n := sy.toNat + 1) (ev_is (ev_add (ev_var rfl) ev_c) (by congr 1; omega)) (by omega) (by omega) (by omega)) (by rw [List.length_map, List.length_map]; omega)
            · rintro σ' H' ⟨p, x, rfl, ex, hpc', hl'⟩
              rw [List.length_map, List.take_length] at hl'
              have hfl := flat_len (f := fun c => gam (c.toNat + 1)) (c := 20) (cntL n bs) hgl
              rw [cnt_len] at hfl
              refine s_asgL (el_encC hn hn2 hl hne hb (ex_l ex hs) (ea1 (ev_var rfl)) (sq_of hpc') (ev_var rfl)) fun p2 H9 hp2 e9 h9 => nx _ _ ⟨p, p2, x, _, _, rfl, ex.trans e9, e9 _ _ hl', h9, by omega, encW_len _ _, rfl⟩
          · have hf2 := of_decide_eq_false hb2
            refine ⟨pb, pe, none, [], encW (lrnM n) bs, rfl, e06.trans e7, e7 _ _ h26, e7 _ _ h6, Nat.zero_le _, encW_len _ _, ?_⟩
            unfold bodyB
            rw [if_neg hf0, if_neg hf1, if_neg hf2]
            rfl
          · rintro σ' H' ⟨p, pe', x, zs, cs, rfl, ex, hz, hc, hzl, hcl, eB⟩
            have hgl : (gam (cs.length + 1)).length ≤ 30 := by
              rw [gam_len]
              have : bl (cs.length + 1) ≤ 13 := bl_le (by omega) (by omega)
              omega
            refine s_retL (xs := (bodyB n bs form).map V.int) ?_ fun p2 H3 hp2 e3 h3 => q p2 H3 (fresh_back ex hp2) (ex.trans e3) h3
            rw [eB, ← List.append_assoc, List.map_append, List.map_append]
            exact el_cat (el_cat3 (ev_var rfl) hz (el_n (n := cs.length + 1) (ev_is (ev_add (ev_len (ev_var rfl) (sq_of hc)) ev_c) (by rw [List.length_map]; congr 1)) (by omega) (by omega) (by omega)) (by rw [List.length_map, List.length_map]; omega)) (ev_var rfl) hc (by rw [List.length_append, List.length_map, List.length_map, List.length_map]; omega)
end
end K16
set_option Elab.async false
set_option linter.all false
set_option maxRecDepth 100000
set_option maxHeartbeats 4000000
set_option exponentiation.threshold 20000
namespace K16
open PySem PySem.Spec PyProof.Rows L2 StX GX KC KQ KW Evl M08 M09 M10 M01 M14 M15 M16
theorem nats_dp {K : PySem.W.Frag} {H : Hp} {l : Addr} {bs : List Nat} (h : SqL K H l (natsV bs)) : Dp K H (.ref l) (.list ((bs.map fun (s : Nat) => (s : Int)).map PyData.int)) := dp_listI (by rw [← natsV_ints]; exact h)
theorem bits2 {b : Nat} (h : b < 4) : (bitsL b 2).map V.int = [.int ((b : Int) / 2), .int ((b : Int) % 2)] := by
  match b, h with
  | 0, _ => decide +kernel
  | 1, _ => decide +kernel
  | 2, _ => decide +kernel
  | 3, _ => decide +kernel
section
variable {P : Program} {w : World} {K : PySem.W.Frag} {mg : Str → Option Value} {base : Heap} {Cl : Nat → Addr} {σ : L2.St} {H H' : Hp} {ta tb te : TE} {t1 t2 t3 t4 t5 : Tok} {t : TA}
theorem el_counts {j1 j2 : Nat} {vs1 vs2 : List Nat} {ts tl : TE} {l : Addr} {n : Nat} {bs : List Nat} (hn : n ≤ 16) (hl : bs.length ≤ 300) (hs : SqL K H l (natsV bs)) (h1 : Ev ts σ H (.int (n : Int)))
    (hw1 : ∀ x, wipe ((wipe σ vs1).set j1 (some x)) vs1 = wipe σ vs1) (hw2 : ∀ x y, wipe ((wipe ((wipe σ vs1).set j1 (some x)) vs2).set j2 (some y)) vs2 = wipe ((wipe σ vs1).set j1 (some x)) vs2)
    (h2 : ∀ x H1, Ev tl ((wipe σ vs1).set j1 (some x)) H1 (.ref l)) (h3 : ∀ x y, (((wipe ((wipe σ vs1).set j1 (some x)) vs2).set j2 (some y))[j2]? = some (some y))) (h4 : ∀ x y, (((wipe ((wipe σ vs1).set j1 (some x)) vs2).set j2 (some y))[j1]? = some (some x))) :
    EvL (tLc (iRng1 (tCons ts tNil)) (gName j1) tYes (tCB (rLenS K) (tCons (tLc (iList K tl) (gName j2) (tTest (tOp rEq (tVar j2) (tVar j1))) (tVar j2) vs2) tNil)) vs1) σ H ((cntL n bs).map V.int) := by
  have hnl : (natsV bs).length = bs.length := List.length_map _
  unfold cntL
  rw [List.map_map]
  refine el_lcN _ (ea1 h1) rfl (by omega) hw1 fun i H9 e9 hi => ?_
  refine ev_is (ev_lenN (el_lcL (fun j => decide ((bs.getD j 0 : Int) = (i : Int))) (fun j => .int ((bs.getD j 0 : Nat) : Int)) (h2 _ _) (ex_l e9 hs) (by omega) (fun x => hw2 _ x) (fun j x H5 e5 hx => ?_) fun j x H5 e5 hx _ => ?_)) ?_
  · obtain ⟨rfl, _⟩ := nats_at hx
    exact et_test (ev_eq (ev_var (h3 _ _)) (ev_var (h4 _ _)))
  · obtain ⟨rfl, _⟩ := nats_at hx
    exact ev_var (h3 _ _)
  · show V.int _ = V.int _
    rw [cnt_given]
def spLaw (K : PySem.W.Frag) (PR Pt : Addr) : Sp := fun vs H Q _ => ∃ (l : Addr) (ns : List Int), vs = [.ref l] ∧ SqL K H l (ns.map V.int) ∧ ns.length ≤ 63 ∧ H PR = some (TabX PR) ∧ H Pt = some (TabX Pt) ∧ ∀ H2, Ex H H2 → Q (.bl true) H2
theorem ok_law {f PR Pt : Addr} {fd : FuncData} {k : Nat} (F : Fun K "law" "law" s_law f fd) (B : Bs mg) (C_law_cell : Cal P w K mg base "_law_cell" 1 ["script", "k"] (spCell K)) (C_law_block : Cal P w K mg base "_law_block" 2 ["script", "first", "most", "size"] (spBlock K)) (C_write_block : Cal P w K mg base "write_block" 12 ["size", "block"] (spWBlock K PR Pt))
    (C_block_lengths : Cal P w K mg base "block_lengths" 9 ["counts"] (spBLens K PR)) (C_law_lengths : Cal P w K mg base "_law_lengths" 9 ["counts"] (spBLens K PR)) (C_law_body : Cal P w K mg base "_law_body" 10 ["size", "block", "form"] (spBodyF K PR Pt)) (C_body : Cal P w K mg base "body" 11 ["size", "block", "form"] (spBodyF K PR Pt))
    (C_law_gamma : Cal P w K mg base "_law_gamma" 1 ["n"] (spN gam fun n => n < 2 ^ 20)) : FnOk P w K mg base CX0 (k + 13) f fd ["script"] (spLaw K PR Pt) := by
  refine F.ok sc_law (fun vs H Q E h => ?_) (fun cdv A outer s H vs Q E hr h => ?_)
  · obtain ⟨l, ns, rfl, _⟩ := h
    rfl
  · obtain ⟨l, ns, rfl, hs, hl, tR, tP, q⟩ := h
    have hu64 := hr.units
    refine ⟨_, (pss_cons (ps_set (i := 1) sc_law.nd rfl (Or.inr rfl) (pe_op op_add pe_int (pe_op op_mod (pe_callC C_law_cell (hr.mono (by omega)) (by rfl) (pa_cons (pv 0) (pa_cons pe_int pa_nil))) pe_int)))
      (pss_cons (ps_if (pt_cmpR op_eq (pe_op op_mod (pe_op op_fdiv (pe_callC C_law_cell (hr.mono (by omega)) (by rfl) (pa_cons (pv 0) (pa_cons pe_int pa_nil))) pe_int) pe_int) pe_int (nomark _)) (pss_one (ps_set (i := 1) sc_law.nd rfl (Or.inr rfl) (pe_op op_add pe_int (pe_op op_mod (pe_op op_fdiv (pe_callC C_law_cell (hr.mono (by omega)) (by rfl) (pa_cons (pv 0) (pa_cons pe_int pa_nil))) pe_int) pe_int)))) pss_nil)
      (pss_cons (ps_set (i := 2) sc_law.nd rfl (Or.inr rfl) (pe_callC C_law_block (hr.mono (by omega)) (by rfl) (pa_cons (pv 0) (pa_cons pe_int (pa_cons pe_int (pa_cons (pv 1) pa_nil))))))
      (pss_cons (ps_set (i := 3) sc_law.nd rfl (Or.inl rfl) (pe_callTy call_list_of (by rfl) B.list (by decide +kernel) (pa_cons (pv 2) pa_nil)))
      (pss_cons (ps_if (pt_cmpR op_eq (pe_callB call_len_seq (by rfl) B.len PySem.boot_len (pa_cons (pv 2) pa_nil)) pe_int (nomark _)) (pss_one (ps_ret (pe_cmpR (op_eqD hu64) (pe_callC C_write_block (hr.mono (by omega)) (by rfl) (pa_cons (pv 1) (pa_cons (pv 3) pa_nil))) (pe_lst (pa_cons pe_int (pa_cons pe_int (pa_cons pe_int pa_nil)))) (nomark _)))) pss_nil)
      (pss_cons (ps_setLc (i := 4) rfl sc_law.nd rfl rfl (sw_true rfl rfl rfl (by decide +kernel)) (pi_range1 (by rfl) B.range (pa_cons (pv 1) pa_nil)) (blkOk_by (own := [("k", 5)]) (N := ["script", "size", "block", "given", "counts", "k", "one", "best", "bodies", "form", "found"]) (sc := defScope s_law) (by decide +kernel)) (fun _ _ _ _ _ => (pg_name (i := 5) sc_law.nd rfl (Or.inr rfl))) (fun _ _ _ _ _ => pts_nil) (fun _ _ _ _ _ => (pe_callB (len_seqK (K := K) rfl) (by rfl) B.len PySem.boot_len (pa_cons (pe_lc rfl sc_law.nd (pi_listK (K := K) rfl (pv 2)) (blkOk_by (own := [("one", 6)]) (N := ["script", "size", "block", "given", "counts", "k", "one", "best", "bodies", "form", "found"]) (sc := scCnt) (by decide +kernel)) (fun _ _ _ _ _ => (pg_name (i := 6) sc_law.nd rfl (Or.inl rfl))) (fun _ _ _ _ _ => (pts_one (pt_cmpR op_eq (pv 6) (pv 5) (nomark _)))) (fun _ _ _ _ _ => (pv 6))) pa_nil))))
      (pss_cons (ps_if (pt_cmpR (op_neD hu64) (pe_callC C_block_lengths (hr.mono (by omega)) (by rfl) (pa_cons (pe_callTy call_list_of (by rfl) B.list (by decide +kernel) (pa_cons (pv 4) pa_nil)) pa_nil)) (pe_callC C_law_lengths (hr.mono (by omega)) (by rfl) (pa_cons (pv 4) pa_nil)) (nomark _)) (pss_one (ps_ret pe_bl)) pss_nil)
      (pss_cons (ps_set (i := 7) sc_law.nd rfl (Or.inl rfl) pe_int)
      (pss_cons (ps_setLc (i := 8) rfl sc_law.nd rfl rfl (sw_true rfl rfl rfl (by decide +kernel)) (pi_range1 (by rfl) B.range (pa_cons pe_int pa_nil)) (blkOk_by (own := [("form", 9)]) (N := ["script", "size", "block", "given", "counts", "k", "one", "best", "bodies", "form", "found"]) (sc := defScope s_law) (by decide +kernel)) (fun _ _ _ _ _ => (pg_name (i := 9) sc_law.nd rfl (Or.inl rfl))) (fun _ _ _ _ _ => pts_nil) (fun _ _ _ _ _ => (pe_callC C_law_body (hr.mono (by omega)) (by rfl) (pa_cons (pv 1) (pa_cons (pv 2) (pa_cons (pv 9) pa_nil))))))
      (pss_cons (ps_for PassesOwn.never rfl (pi_range1 (by rfl) B.range (pa_cons pe_int pa_nil)) (pg_name (i := 9) sc_law.nd rfl (Or.inl rfl)) (pss_cons (ps_if (pt_cmpR (op_neD hu64) (pe_callC C_body (hr.mono (by omega)) (by rfl) (pa_cons (pv 1) (pa_cons (pv 3) (pa_cons (pv 9) pa_nil)))) (pe_ix ix_list (pv 8) (pv 9) (fun _ _ => rfl)) (nomark _)) (pss_one (ps_ret pe_bl)) pss_nil)
      (pss_one (ps_if (pt_cmpR op_lt (pe_callB call_len_seq (by rfl) B.len PySem.boot_len (pa_cons (pe_ix ix_list (pv 8) (pv 9) (fun _ _ => rfl)) pa_nil)) (pe_callB call_len_seq (by rfl) B.len PySem.boot_len (pa_cons (pe_ix ix_list (pv 8) (pv 7) (fun _ _ => rfl)) pa_nil)) (nomark _)) (pss_one (ps_set (i := 7) sc_law.nd rfl (Or.inl rfl) (pv 9))) pss_nil))))
      (pss_cons (ps_set (i := 10) sc_law.nd rfl (Or.inl rfl) (pe_callC C_write_block (hr.mono (by omega)) (by rfl) (pa_cons (pv 1) (pa_cons (pv 3) pa_nil))))
      (pss_one (ps_ret (pe_and (pe_cmpR (op_eqD hu64) (pv 3) (pv 2) (nomark _)) (pe_one (pe_cmpR (op_eqD hu64) (pv 10) (pe_op op_cat (pe_op op_cat (pe_callC C_law_gamma (hr.mono (by omega)) (by rfl) (pa_cons (pe_op op_add (pe_callB call_len_seq (by rfl) B.len PySem.boot_len (pa_cons (pv 2) pa_nil)) pe_int) pa_nil)) (pe_lst (pa_cons (pe_op op_fdiv (pv 7) pe_int) (pa_cons (pe_op op_mod (pv 7) pe_int) pa_nil)))) (pe_ix ix_list (pv 8) (pv 7) (fun _ _ => rfl))) (nomark _))))))))))))))))), ?_⟩
    obtain ⟨c, hc⟩ : ∃ c, c = cellOf ns 0 := ⟨_, rfl⟩
    have hcell : ∀ {σ : L2.St} {H' : Hp}, σ[0]? = some (some (.ref l)) → Ex H H' → Ev (tCall (spCell K) [] E0 (tCons (tVar 0) (tCons (tC (.int 0)) tNil))) σ H' (.int c) := fun h e => ev_call (ea2 (ev_var h) ev_c) (by rw [hc]; exact spv_cell (j := 0) (ex_l e hs) rfl)
    obtain ⟨n1, hn1, en1⟩ := nat_mod (x := c) (n := 7) (by decide)
    have en1' : c % 7 = (n1 : Int) := en1
    refine q_asg (v := .int ((2 + n1 : Nat) : Int)) (ev_is (ev_add ev_c (ev_op (hcell rfl (Ex.refl _)) ev_c (rv_mod (by decide)))) (by rw [en1']; push_cast; rfl)) fun H1 e1 => ?_
    refine q_mid (fun σ' H' => ∃ n : Nat, 2 ≤ n ∧ n ≤ 16 ∧ σ' = [some (.ref l), some (.int (n : Int)), none, none, none, none, none, none, none, none, none] ∧ Ex H H') (et_test (ev_eq (ev_op (ev_op (hcell rfl e1) ev_c (rv_div (by decide) (by decide))) ev_c (rv_mod (by decide))) ev_c)) (fun hb H2 e2 D' nx => ?_) (fun hb H2 e2 => ⟨2 + n1, by omega, by omega, rfl, e1.trans e2⟩) ?_
    · obtain ⟨n2, hn2, en2⟩ := nat_mod (x := c / 56) (n := 15) (by decide)
      have en2' : c / 56 % 15 = (n2 : Int) := en2
      exact s_asg (v := .int ((2 + n2 : Nat) : Int)) (ev_is (ev_add ev_c (ev_op (ev_op (hcell rfl (e1.trans e2)) ev_c (rv_div (by decide) (by decide))) ev_c (rv_mod (by decide)))) (by rw [en2']; push_cast; rfl)) fun H3 e3 => nx _ _ ⟨2 + n2, by omega, by omega, rfl, (e1.trans e2).trans e3⟩
    · rintro σ2 H2 ⟨n, hn, hn2, rfl, e2⟩
      refine q_asgP (R := fun v H' => ∃ p bs, v = .ref p ∧ H' p = some (.lst (natsV bs)) ∧ (∀ s ∈ bs, s < n) ∧ bs.length ≤ 60) (ep_call (vs := [.ref l, .int 1, .int 30, .int (n : Int)]) (ea_cons (ev_var rfl) (ea3 ev_c ev_c (ev_var rfl))) fun H3 e3 Q q => ⟨l, ns, n, rfl, ex_l (e2.trans e3) hs, hl, by omega, fun p bs H4 hp e4 h4 h5 h6 => q _ H4 e4 ⟨p, bs, rfl, h4, h5, h6⟩⟩) fun v H3 e3 ⟨pb, bs, ev, hpb, hbs, hbl⟩ => ?_
      subst ev
      refine q_asgL (el_listOf (ev_var rfl) (sq_of hpb)) fun pg H4 hpg e4 h4 => ?_
      have e04 := (e2.trans e3).trans e4
      have hb4 := e4 _ _ hpb
      have hnl : (natsV bs).length = bs.length := List.length_map _
      have hT4 : TT2 PR Pt H4 := ⟨e04 _ _ tR, e04 _ _ tP⟩
      refine q_when (b := decide (bs.length = 0)) (et_is (et_test (ev_eq (ev_len (ev_var rfl) (sq_of hb4)) ev_c)) (by rw [hnl, decide_eq_decide]; omega)) (fun hb H5 e5 => ?_) (fun hb H5 e5 => ?_)
      · have h0 : bs = [] := List.length_eq_zero_iff.mp (of_decide_eq_true hb)
        subst h0
        refine s_ret (v := .bl true) (ev_is (ev_eqD (K := K) (ed_listI (ns := blockB n []) (el_call (ea2 (ev_var rfl) (ev_var rfl)) fun H6 e6 Q q E => ⟨pg, n, [], rfl, hn, hn2, sq_of ((e5.trans e6) _ _ h4), Nat.zero_le _, hbs, tt2_ext (e5.trans e6) hT4, q⟩)) (ed_listI (ns := [1, 0, 0]) (el_lst (ea3 ev_c ev_c ev_c) (by decide))) (shaped_ints _) (shaped_ints _)) ?_) fun H6 e6 => q H6 ((e04.trans e5).trans e6)
        unfold blockB
        rw [if_pos rfl, eqv_ints]
      · have hne : bs ≠ [] := fun z => by subst z; simp at hb
        have e05 := e04.trans e5
        have hT5 := tt2_ext e5 hT4
        refine q_asgL (el_counts hn2 (by omega) (sq_of (e5 _ _ hb4)) (ev_var rfl) (fun x => rfl) (fun x y => rfl) (fun x H1 => ev_var rfl) (fun x y => rfl) (fun x y => rfl)) fun pc H6 hpc e6 h6 => ?_
        have e46 := e5.trans e6
        have hbl : ∀ {tx : TE} {σ : L2.St} {H7 : Hp} (h : EvL tx σ H7 ((cntL n bs).map V.int)), Ex H4 H7 → EvL (tCall (spBLens K PR) [] E0 (tCons tx tNil)) σ H7 ((lensB (cntL n bs)).map V.int) := fun h e7 => el_call1N h fun p H8 e8 h8 H9 e9 Q q E => ⟨p, cntL n bs, rfl, sq_of (e9 _ _ h8), by rw [cnt_len]; exact hn2, fun x hx => by have := cnt_bd (by omega) x hx; omega, cnt_occ1 hne hbs, ((e7.trans e8).trans e9) _ _ hT4.1, q⟩
        have hbl2 : ∀ {tx : TE} {σ : L2.St} {H7 : Hp} (h : Ev tx σ H7 (.ref pc)), Ex H6 H7 → EvL (tCall (spBLens K PR) [] E0 (tCons tx tNil)) σ H7 ((lensB (cntL n bs)).map V.int) := fun h e7 => el_call (ea1 h) fun H8 e8 Q q E => ⟨pc, cntL n bs, rfl, sq_of ((e7.trans e8) _ _ h6), by rw [cnt_len]; exact hn2, fun x hx => by have := cnt_bd (by omega) x hx; omega, cnt_occ1 hne hbs, ((e46.trans e7).trans e8) _ _ hT4.1, q⟩
        refine q_when (b := false) (et_is (et_test (ev_neD (K := K) (ed_listI (ns := lensB (cntL n bs)) (hbl (el_listOf (ev_var rfl) (sq_of h6)) e46)) (ed_listI (ns := lensB (cntL n bs)) (hbl2 (ev_var rfl) (Ex.refl _))) (shaped_ints _) (shaped_ints _))) (by rw [eqv_ints]; rfl)) (fun z => by cases z) (fun _ H7 e7 => ?_)
        refine q_asg (v := .int ((bestF n bs 0 : Nat) : Int)) ev_c fun H8 e8 => ?_
        have e48 := (e46.trans e7).trans e8
        refine q_asgP (ep_lcLL (fun i => bodyB n bs i) (n := 4) (ea1 ev_c) (by decide) (fun x => rfl) fun i H9 e9 hi => el_call (ea3 (ev_var rfl) (ev_var rfl) (ev_var rfl)) fun H10 e10 Q q E => ⟨pb, n, bs, i, rfl, hn, hn2, sq_of (((e48.trans e9).trans e10) _ _ hb4), by omega, hne, hbs, hi, tt2_ext ((e48.trans e9).trans e10) hT4, q⟩) fun v H9 e9 ⟨pd, ev, hpd, hLL⟩ => ?_
        subst ev
        have e49 := e48.trans e9
        have hcs : ∀ i, i < 4 → ((List.range 4).map fun i => bodyB n bs i)[i]? = some (bodyB n bs i) := fun i hi => by
          rw [List.getElem?_map, List.getElem?_range hi]
          rfl
        refine q_forR1 (n := 4) (ea1 ev_c) ⟨by decide, by decide⟩ (fun i σ' H' => ∃ x : Option V, σ' = [some (.ref l), some (.int (n : Int)), some (.ref pb), some (.ref pg), some (.ref pc), none, none, some (.int ((bestF n bs i : Nat) : Int)), some (.ref pd), x, none] ∧ Ex H9 H') (fun H10 e10 => ⟨none, rfl, e10⟩) ?_ ?_
        · rintro i σ' H' hi ⟨x, rfl, ex⟩
          have hi4 : i < 4 := by omega
          obtain ⟨r, hr, hre⟩ := (hLL.ext ex).at_ (K := K) (hcs i hi4)
          refine q_when (b := false) (et_is (et_test (ev_neD (K := K) (ed_listI (ns := bodyB n bs i) (el_call (ea3 (ev_var rfl) (ev_var rfl) (ev_var (v := .int (i : Int)) rfl)) fun H10 e10 Q q E => ⟨pg, n, bs, i, rfl, hn, hn2, sq_of (((e49.trans ex).trans e10) _ _ h4), by omega, hne, hbs, hi4, tt2_ext ((e49.trans ex).trans e10) hT4, q⟩)) (ed_at (hre (Ex.refl _) (ev_var rfl) (ev_var (v := .int (i : Int)) rfl) rfl) (dp_listI (sq_of hr))) (shaped_ints _) (shaped_ints _))) (by rw [eqv_ints]; rfl)) (fun z => by cases z) (fun _ H10 e10 => ?_)
          have hb4' : bestF n bs i < 4 := by
            cases i with
            | zero => exact (by decide : 0 < 4)
            | succ i => have := best_lt (n := n) (bs := bs) i; omega
          obtain ⟨r2, hr2, hre2⟩ := (hLL.ext (ex.trans e10)).at_ (K := K) (hcs _ hb4')
          refine s_when (b := decide (bLen n bs i < bLen n bs (bestF n bs i))) (et_is (et_test (ev_lt (ev_len (hre e10 (ev_var rfl) (ev_var (v := .int (i : Int)) rfl) rfl) (sq_of (e10 _ _ hr))) (ev_len (hre2 (Ex.refl _) (ev_var rfl) (ev_var (v := .int ((bestF n bs i : Nat) : Int)) rfl) rfl) (sq_of hr2)))) ?_) (fun hb H11 e11 => ?_) (fun hb H11 e11 => ?_)
          · rw [List.length_map, List.length_map]
            exact decide_eq_decide.mpr (by unfold bLen; omega)
          · have hlt := of_decide_eq_true hb
            refine s_asg (v := .int (i : Int)) (ev_var rfl) fun H12 e12 => ⟨some (.int (i : Int)), ?_, ((ex.trans e10).trans e11).trans e12⟩
            rw [show bestF n bs (i + 1) = i from if_pos hlt]
            rfl
          · have hlt := of_decide_eq_false hb
            refine ⟨some (.int (i : Int)), ?_, (ex.trans e10).trans e11⟩
            rw [show bestF n bs (i + 1) = bestF n bs i from if_neg hlt]
            rfl
        · rintro σ' H10 ⟨x, rfl, ex⟩
          have e4t : ((4 : Int)).toNat = 4 := rfl
          rw [e4t]
          have hb4' : bestF n bs 4 < 4 := best_lt 3
          obtain ⟨bf, hbf⟩ : ∃ bf, bf = bestF n bs 4 := ⟨_, rfl⟩
          have e4A := e49.trans ex
          have hbL := body_len hn hn2 (by omega) hne hbs bf
          have hgl := gam_le (m := bs.length) (by omega)
          refine q_asgL (xs := (blockB n bs).map V.int) (el_call (ea2 (ev_var rfl) (ev_var rfl)) fun H11 e11 Q q E => ⟨pg, n, bs, rfl, hn, hn2, sq_of ((e4A.trans e11) _ _ h4), by omega, hbs, tt2_ext (e4A.trans e11) hT4, q⟩) fun pf H11 hpf e11 h11 => ?_
          rw [← hbf]
          rw [← hbf] at hb4'
          obtain ⟨r, hr, hre⟩ := (hLL.ext (ex.trans e11)).at_ (K := K) (hcs bf hb4')
          refine s_ret (v := .bl true) (ev_is (ev_andV (a := true) (b := true) (ev_is (ev_eqD (K := K) (ed_at (ev_var rfl) (nats_dp (sq_of ((e4A.trans e11) _ _ h4)))) (ed_at (ev_var rfl) (nats_dp (sq_of ((e4A.trans e11) _ _ hb4)))) (shaped_ints _) (shaped_ints _)) (by rw [eqv_ints])) fun _ => ev_is (ev_eqD (K := K) (ed_at (ev_var rfl) (dp_listI (sq_of h11))) (ed_listI (ns := blockB n bs) ?_) (shaped_ints _) (shaped_ints _)) (by rw [eqv_ints])) rfl) fun H12 e12 => q H12 (((e04.trans e4A).trans e11).trans e12)
          unfold blockB
          rw [if_neg hne, ← hbf, List.map_append, List.map_append, bits2 hb4']
          refine el_cat (el_catLL (el_n (n := bs.length + 1) (ev_is (ev_add (ev_len (ev_var rfl) (sq_of ((e4A.trans e11) _ _ hb4))) ev_c) (by rw [hnl]; congr 1)) (by omega) (by omega) (by omega)) (el_lst (ea2 (ev_op (ev_var (v := .int (bf : Int)) rfl) ev_c (rv_div (by decide) (by decide))) (ev_op (ev_var (v := .int (bf : Int)) rfl) ev_c (rv_mod (by decide)))) (by show 2 ≤ 100000; decide)) ?_) (hre (Ex.refl _) (ev_var rfl) (ev_var (v := .int (bf : Int)) rfl) rfl) hr ?_
          · rw [List.length_map]
            show _ + 2 ≤ 100000
            omega
          · rw [List.length_append, List.length_map, List.length_map]
            show _ + 2 + _ ≤ 100000
            omega
end
end K16
set_option Elab.async false
set_option linter.all false
set_option maxRecDepth 100000
namespace K16
open PySem PySem.Spec PyProof.Rows L2 StX GX KC Evl M08 M09
section
variable {Cl : Nat → Addr} {i : Nat} {vs : List V} {H : Hp} {Q : VK} {E : XK}
theorem kd_no {p : Addr} {m : Md} {F : Addr → Prop} (h : MAt Cl H p m F) (k : m.kind = i + 2) : False := by
  rcases h with ⟨z, _⟩ | ⟨z, _⟩ | z
  · omega
  · omega
  · exact z
theorem no_total (h : spTotal Cl (i + 2) vs H Q E) : False := by
  obtain ⟨p, m, F, n, _, k, hm, _⟩ := h
  exact kd_no hm k
theorem no_low (h : spLow Cl (i + 2) vs H Q E) : False := by
  obtain ⟨p, m, F, n, s, _, k, hm, _⟩ := h
  exact kd_no hm k
theorem no_weight (h : spWeight Cl (i + 2) vs H Q E) : False := by
  obtain ⟨p, m, F, n, s, _, k, hm, _⟩ := h
  exact kd_no hm k
theorem no_symbol_at (h : spSym Cl (i + 2) vs H Q E) : False := by
  obtain ⟨p, m, F, n, x, _, k, hm, _⟩ := h
  exact kd_no hm k
theorem no_learn (h : spLearn Cl (i + 2) vs H Q E) : False := by
  obtain ⟨p, m, F, n, s, _, k, hm, _⟩ := h
  exact kd_no hm k
theorem no_fresh (h : spFresh Cl (i + 2) vs H Q E) : False := by
  obtain ⟨p, m, F, n, _, k, hm, _⟩ := h
  exact kd_no hm k
end
end K16
set_option Elab.async false
set_option linter.all false
set_option maxRecDepth 100000
set_option maxHeartbeats 4000000
/-! The end of a law: the head's heap, the script, tables of code objects followed as TabX. -/
namespace KC
open PySem PySem.Spec PyProof.Rows L2 GX Evl
def tabO : Obj := { cls := .none, data := .fields #[] }
/-- tables that stand empty in h, out of the frozen part, of known code objects -/
structure Tbs (K : PySem.W.Frag) (h : Heap) (cs : List (Addr × Addr)) : Prop where
  emp : ∀ p ∈ cs, h.get? p.2 = some tabO
  out : ∀ p ∈ cs, K.lookup p.2 = none
  cod : ∀ p ∈ cs, PySem.W.CodeHd h p.1 p.2
structure Hd0 (K : PySem.W.Frag) (mg mb : Str → Option Value) (s : Shared) : Prop where
  kin : K.In s.heap
  glo : s.heap.Ns mainGlobals mg
  blt : s.heap.Ns builtinsNs mb
  boo : ∀ y : Str, y ≠ "__name__" → mb y = bootBuiltins y
  lim : s.heap.NoLimit
  gen : s.gens = #[]
  bmo : ∃ (bm : Addr) (o : Obj), mg "__builtins__" = some (.ref bm) ∧ bm ≠ builtinsNs ∧ s.heap.get? bm = some o ∧ o.cls = .type "module" ∧ o.dict = some builtinsNs ∧ o.data = .plain
/-- the start: the tables, and the script where it is not frozen -/
def H0 (cs : List (Addr × Addr)) (a : Addr) (u : Option HO) : Hp := fun b => if b ∈ cs.map Prod.snd then some (TabX b) else if b = a then u else none
theorem h0_tab {cs : List (Addr × Addr)} {a b : Addr} {u : Option HO} (m : b ∈ cs.map Prod.snd) : H0 cs a u b = some (TabX b) := if_pos m
theorem h0_a {cs : List (Addr × Addr)} {a : Addr} {u : Option HO} (m : a ∉ cs.map Prod.snd) : H0 cs a u a = u := (if_neg m).trans (if_pos rfl)
theorem h0_no {cs : List (Addr × Addr)} {a b : Addr} {u : Option HO} (m : b ∉ cs.map Prod.snd) (n : b ≠ a) : H0 cs a u b = none := (if_neg m).trans (if_neg n)
section
variable {P : Program} {w : World} {K : PySem.W.Frag} {mg mb : Str → Option Value} {CX : CXT} {s : Shared} {cs : List (Addr × Addr)} {a : Addr} {u : Option HO} {vs : List Value}
theorem Tbs.at_ {h : Heap} (T : Tbs K h cs) {b : Addr} (m : b ∈ cs.map Prod.snd) : h.get? b = some tabO := by
  obtain ⟨p, hp, rfl⟩ := List.mem_map.mp m
  exact T.emp p hp
/-- an object that is neither a list nor a table is not followed -/
theorem h0_free (T : Tbs K s.heap cs) (ha : s.heap.get? a = some { cls := .type "list", data := .seq vs.toArray }) {b : Addr} {o : Obj} (e : s.heap.get? b = some o) (d1 : ∀ xs k, o.data ≠ .seq xs k) (d2 : o.data ≠ .fields #[]) : H0 cs a u b = none := by
  refine h0_no (fun m => ?_) fun z => ?_
  · have q := T.at_ m
    rw [e] at q
    exact d2 (by rw [Option.some.inj q] <;> rfl)
  · subst z
    rw [e] at ha
    exact d1 _ _ (congrArg Obj.data (Option.some.inj ha))
theorem dict_free {o : Obj} {es : Array DictEntry} {ep : Nat} (d : o.data = .dict es ep) : (∀ xs k, o.data ≠ .seq xs k) ∧ o.data ≠ .fields #[] := by
  rw [d]
  exact ⟨fun _ _ z => (nomatch z), fun z => (nomatch z)⟩
theorem plain_free {o : Obj} (d : o.data = .plain) : (∀ xs k, o.data ≠ .seq xs k) ∧ o.data ≠ .fields #[] := by
  rw [d]
  exact ⟨fun _ _ z => (nomatch z), fun z => (nomatch z)⟩
/-- the ground under the law's def -/
structure Grd (P : Program) (w : World) (K : PySem.W.Frag) (mg : Str → Option Value) (cs : List (Addr × Addr)) (H : Hp) (s : Shared) : Prop where
  env : Env0 P w K mg (hidT s.heap H) callerA [] s H
  kin : K.In (hidT s.heap H)
  glo : (hidT s.heap H).Ns mainGlobals mg
  tab : ∀ p ∈ cs, GxR.TabB (hidT s.heap H) mg p.1 p.2
theorem grd_of (D : Hd0 K mg mb s) (T : Tbs K s.heap cs) (ha : s.heap.get? a = some { cls := .type "list", data := .seq vs.toArray }) (hu : u ≠ none → K.lookup a = none) (ok : HOk P w (H0 cs a u) s.heap) : Grd P w K mg cs (H0 cs a u) s := by
  have down : ∀ {b : Addr} {o : Obj}, s.heap.get? b = some o → (∀ xs k, o.data ≠ .seq xs k) ∧ o.data ≠ .fields #[] → (hidT s.heap (H0 cs a u)).get? b = some o := fun e d => hidT_get e (h0_free T ha e d.1 d.2)
  have ns : ∀ {b : Addr} {m : Str → Option Value}, s.heap.Ns b m → (hidT s.heap (H0 cs a u)).Ns b m := fun x => by
    obtain ⟨o, es, ep, e, d, r⟩ := x
    exact ⟨o, es, ep, down e (dict_free d), d, r⟩
  have kin : K.In (hidT s.heap (H0 cs a u)) := fun b o e => by
    refine hidT_get (D.kin b o e) ?_
    by_cases m : b ∈ cs.map Prod.snd
    · obtain ⟨p, hp, rfl⟩ := List.mem_map.mp m
      rw [T.out p hp] at e
      cases e
    · by_cases z : b = a
      · subst z
        rw [h0_a m]
        cases hu1 : u with
        | none => rfl
        | some v =>
          rw [hu (by rw [hu1]; exact Option.some_ne_none v)] at e
          cases e
      · exact h0_no m z
  refine ⟨⟨rfl, ⟨kin, ns D.glo, ⟨mb, ns D.blt, D.boo⟩, ?_⟩, fun b o e => of_hidT e, Nat.le_of_eq (hidT_size _ _), trivial, fun b hb => absurd (show b ∈ ([] : List Addr) from hb) List.not_mem_nil, ok, .of_eq D.gen⟩, kin, ns D.glo, fun p hp => ⟨?_, ?_, fun z => ?_⟩⟩
  · obtain ⟨mc, n1, n2⟩ := D.lim
    exact ⟨mc, ns n1, n2⟩
  · obtain ⟨o, us, f1, f2, f3, f4, f5, f6, f7, e, c1, c2, c3, rest⟩ := T.cod p hp
    refine ⟨o, us, f1, f2, f3, f4, f5, f6, f7, down e ?_, c1, c2, c3, rest⟩
    rw [c2]
    refine ⟨fun _ _ z => (nomatch z), fun z => ?_⟩
    have z' : us = #[] := by injection z
    rw [z'] at c3
    simp at c3
  · obtain ⟨bm, o, b1, b2, b3, b4, b5, b6⟩ := D.bmo
    have g1 : bm ≠ mainGlobals := fun z => by
      obtain ⟨og, es, ep, e, d, _⟩ := D.glo
      rw [← z, b3] at e
      rw [← Option.some.inj e, b6] at d
      cases d
    have g2 : bm ≠ p.2 := fun z => by
      have q := T.emp p hp
      rw [← z, b3] at q
      rw [Option.some.inj q] at b6
      cases b6
    exact ⟨bm, o, b1, b2, g1, g2, down b3 (plain_free b6), b4, b5, b6⟩
  · obtain ⟨og, es, ep, e, d, _⟩ := D.glo
    have q := T.emp p hp
    rw [← z, e] at q
    rw [Option.some.inj q] at d
    cases d
/-- the law is called with its script -/
theorem law_callX {k : Nat} {fa : Addr} {fd : FuncData} {x : Str} {sp : Sp} {ns : List Int} (D : Hd0 K mg mb s) (T : Tbs K s.heap cs) (ha : s.heap.get? a = some { cls := .type "list", data := .seq vs.toArray }) (hi : IntsAre vs ns) (hl : ns.length ≤ sizeLine) (hr : Room k callerA)
    (ok : ∀ base : Heap, K.In base → base.Ns mainGlobals mg → (∀ p ∈ cs, GxR.TabB base mg p.1 p.2) → FnOk P w K mg base CX k fa fd [x] sp) (bd : ∀ (s : Shared) (v : Value), BindsTo s fd ⟨[v], []⟩ [(x, v)])
    (hsp : ∀ H : Hp, (∀ p ∈ cs, H p.2 = some (TabX p.2)) → SqL K H a (ns.map V.int) → sp [.ref a] H (fun v H' => v = .bl true ∧ ∀ p ∈ cs, H' p.2 = some (TabX p.2)) fun _ _ _ => False)
    (hx : ∀ H e s', CX [] H s (fun _ _ _ => False) e s' → False) :
    codeAny (model P w) callerA (.call (.ref fa) ⟨[.ref a], []⟩) (fun r s' => r = .ok (.ret (.bool true)) ∧ OldK s.heap s'.heap ∧ s'.os = s.os ∧ AllBare s'.gens) s := by
  have rv := vals_ints hi
  have anot : a ∉ cs.map Prod.snd := fun m => by
    have q := T.at_ m
    rw [ha] at q
    have q2 := congrArg Obj.data (Option.some.inj q)
    cases q2
  have tabs : ∀ {u : Option HO}, ∀ p ∈ cs, H0 cs a u p.2 = some (TabX p.2) := fun p hp => h0_tab (List.mem_map.mpr ⟨p, hp, rfl⟩)
  -- whatever is followed of the script
  have go : ∀ u : Option HO, (u = none ∨ u = some (.frz { cls := .type "list", data := .seq vs.toArray } (.lst (ns.map V.int)))) → (u ≠ none → K.lookup a = none) → SqL K (H0 cs a u) a (ns.map V.int) →
      codeAny (model P w) callerA (.call (.ref fa) ⟨[.ref a], []⟩) (fun r s' => r = .ok (.ret (.bool true)) ∧ OldK s.heap s'.heap ∧ s'.os = s.os ∧ AllBare s'.gens) s := fun u hu hk hs => by
    have hok : HOk P w (H0 cs a u) s.heap := fun b o e => by
      by_cases m : b ∈ cs.map Prod.snd
      · rw [h0_tab m] at e
        cases e
        exact tabx_ok (T.at_ m) (show TriplesOk [] from trivial)
      · by_cases z : b = a
        · subst z
          rw [h0_a m] at e
          rcases hu with rfl | rfl
          · cases e
          · cases e
            exact ⟨ha, by rw [List.length_map]; exact hl, vs, 0, rv, ha⟩
        · rw [h0_no m z] at e
          cases e
    have G := grd_of (u := u) D T ha hk hok
    refine codeAny_mono ((ok _ G.kin G.glo G.tab).run callerA [] s _ ⟨[.ref a], []⟩ [.ref a] [.ref a] _ _ hr G.env (bd s (.ref a)) (.cons rfl .nil) (hsp _ tabs hs)) fun r s' h => ?_
    match r, h with
    | .error e, h => exact (hx _ e s' h).elim
    | .ok .next, h => exact False.elim h
    | .ok .brk, h => exact False.elim h
    | .ok .cont, h => exact False.elim h
    | .ok (.ret v0), h =>
      obtain ⟨v, H', os, bare, un, hok', r', q, qt⟩ := h
      subst q
      obtain rfl : v0 = Value.bool true := r'
      have same : ∀ b o, b ∉ cs.map Prod.snd → s.heap.get? b = some o → s'.heap.get? b = some o := fun b o m e => by
        by_cases z : b = a
        · subst z
          rcases hu with rfl | rfl
          · exact un.keep b o e (h0_a m) List.not_mem_nil List.not_mem_nil
          · have f2 := hok' b _ (un.frzs b _ _ (h0_a m))
            rw [ha] at e
            rw [← Option.some.inj e]
            exact f2.1
        · exact un.keep b o e (h0_no m z) List.not_mem_nil List.not_mem_nil
      have grew : ∀ p ∈ cs, ∃ more : Array Value, s'.heap.get? p.2 = some { cls := .none, data := .fields more } := fun p hp => by
        obtain ⟨⟨more, e, _⟩, _⟩ := hok' p.2 _ (qt p hp)
        exact ⟨more, e⟩
      refine ⟨rfl, ⟨fun b o e => ?_, fun b o e => ?_⟩, os, bare⟩
      · by_cases m : b ∈ cs.map Prod.snd
        · obtain ⟨p, hp, rfl⟩ := List.mem_map.mp m
          obtain ⟨more, g⟩ := grew p hp
          have eo : o = tabO := Option.some.inj (e.symm.trans (T.emp p hp))
          subst eo
          exact .inr (.inl ⟨((T.cod p hp).tab (ps := #[]) (T.emp p hp)).isCodeTable, rfl, #[], more, rfl, by rw [Array.empty_append]; exact g⟩)
        · exact .inl (same b o m e)
      · by_cases m : b ∈ cs.map Prod.snd
        · obtain ⟨p, hp, rfl⟩ := List.mem_map.mp m
          obtain ⟨more, g⟩ := grew p hp
          exact ⟨_, g⟩
        · exact ⟨o, same b o m e⟩
  cases hk : K.lookup a with
  | none => exact go _ (.inr rfl) (fun _ => hk) (.inl (.inr ⟨_, h0_a anot⟩))
  | some o =>
    have e := (D.kin a o hk).symm.trans ha
    have eo := Option.some.inj e
    subst eo
    exact go none (.inl rfl) (fun z => absurd rfl z) (.inr ⟨_, vs.toArray, _, hk, rfl, rfl, rfl, by rw [List.size_toArray, hi.length]; exact hl, by simpa using rv⟩)
end
/-- what the head's defs have: their code objects, with empty tables -/
def Rec0 (q : Program) (mg : Str → Option Value) (h : Heap) : Prop := ∀ d ∈ recsOf q, ∃ a o fd c P, mg d.name = some (.ref a) ∧ h.get? a = some o ∧ o.data = .func fd ∧ fd.code = .ref c ∧ h.IsCode c P #[] ∧ h.TableAt c P #[]
theorem tab_emp {q : Program} {mg : Str → Option Value} {h : Heap} {K : PySem.W.Frag} (R : Rec0 q mg h) (X : K.In h) {nm : Str} {f c Pt : Addr} {fd : FuncData} {e : Value} {dd : Option Addr} {sl : Array (Option Value)}
    (hrec : ((recsOf q).any fun e => e.name == nm) = true) (hm : mg nm = some (.ref f)) (hk : K.lookup f = some ⟨e, dd, .func fd, sl⟩) (hc : fd.code = .ref c) (C : PySem.W.CodeHd h c Pt) : h.get? Pt = some tabO := by
  obtain ⟨d, hd, hn⟩ := List.any_eq_true.mp hrec
  obtain ⟨f1, o1, fd1, c1, P1, e1, e2, e3, e4, _, ⟨⟨oc, vc, g1, _, g3, g4⟩, g5⟩⟩ := R d hd
  rw [beq_iff_eq.mp hn, hm] at e1
  have ef : f = f1 := Value.ref.inj (Option.some.inj e1)
  subst ef
  rw [X f _ hk] at e2
  have eo := Option.some.inj e2
  subst eo
  have efd : fd = fd1 := by injection e3
  subst efd
  rw [hc] at e4
  have ec : c = c1 := Value.ref.inj e4
  subst ec
  obtain ⟨o2, us, _, _, _, _, _, _, _, k1, _, k2, k3, _⟩ := C
  rw [k1] at g1
  have eo2 := Option.some.inj g1
  subst eo2
  rw [k2] at g3
  have eu : us = vc := by injection g3
  subst eu
  rw [k3] at g4
  have eP : Pt = P1 := Value.ref.inj (Option.some.inj g4)
  subst eP
  exact g5
def LawX (l : PySem.W.OpenLaw) (w : World) (K : PySem.W.Frag) (CX : CXT) (k n : Nat) (x : Str) (mg : Str → Option Value) (fa : Addr) (h : Heap) : Prop :=
  ∃ (fd : FuncData) (cs : List (Addr × Addr)) (sp : Sp), Tbs K h cs ∧ (∀ (s : Shared) (v : Value), BindsTo s fd ⟨[v], []⟩ [(x, v)]) ∧
    (∀ (H : Hp) (a : Addr) (ns : List Int), ns.length ≤ n → (∀ z ∈ ns, Builtin.Int.intBits z ≤ 1048576) → (∀ p ∈ cs, H p.2 = some (TabX p.2)) → SqL K H a (ns.map V.int) → sp [.ref a] H (fun v H' => v = .bl true ∧ ∀ p ∈ cs, H' p.2 = some (TabX p.2)) fun _ _ _ => False) ∧
    ∀ base : Heap, K.In base → base.Ns mainGlobals mg → (∀ p ∈ cs, GxR.TabB base mg p.1 p.2) → FnOk l.prog w K mg base CX k fa fd [x] sp
theorem walk_X {l : PySem.W.OpenLaw} {n k : Nat} {q : Program} {loose : List Str} {XP : (Str → Option Value) → Heap → Prop} {YP : World → Heap → Prop} {d : DefRec} {Kf : Params → PySem.W.Frag} {CX : World → CXT} {x : Str}
    (h1 : l.most = some n) (h2 : n ≤ sizeLine) (h3 : d.params.defaults = []) (h4 : Room k callerA) (h5 : ∀ (w : World) (h : Heap), YP w h → (Kf w.params).In h)
    (F : ∀ (w : World) (mg : Str → Option Value) (fa : Addr) (h : Heap), YP w h → (Kf w.params).In h → h.Ns mainGlobals mg → mg d.name = some (.ref fa) → Rec0 q mg h → LawX l w (Kf w.params) (CX w) k n x mg fa h)
    (h6 : ∀ (w : World) (H : Hp) (s : Shared) (e : Value) (s' : Shared), CX w [] H s (fun _ _ _ => False) e s' → False) :
    PySem.W.WalkO q loose XP YP l.row.toRowW d [] (fun f vs => PySem.call f vs) := by
  refine Att.attach_callB h1 h3 fun w _ s₁ mg mb fa o pm cd doc a vs ns G Y _ _ _ hmg hobj hints hlen hbits hg => ?_
  have X := h5 w _ Y
  obtain ⟨fd, cs, sp, T, bd, hsp, ok⟩ := F w mg fa _ Y X G.T.g hmg G.T.tab
  exact law_callX ⟨X, G.T.g, G.T.b, G.T.builtins, G.T.nolimit, hg, G.T.bmain⟩ T hobj hints (Nat.le_trans hlen h2) h4 ok bd (fun H hT hS => hsp H a ns hlen hbits hT hS) fun H e s' => h6 w H s₁ e s'
end KC
set_option Elab.async false
set_option linter.all false
set_option maxRecDepth 100000
set_option maxHeartbeats 4000000
namespace K16
open PySem PySem.Spec PyProof.Rows L2 GX KC Evl M08 M09 M10 M01 KW
theorem top_of {l : PySem.W.OpenLaw} {q : Program} {w : World} {K : PySem.W.Frag} {h : Heap} {mg : Str → Option Value} {fa : Addr} (X : K.In h) (G : h.Ns mainGlobals mg) (R : Rec0 q mg h) (hfa : mg "law" = some (.ref fa)) (r10 : ((recsOf q).any fun e => e.name == "ranks") = true)  (r18 : ((recsOf q).any fun e => e.name == "words") = true)
    {ae tf tb : Addr} {odE odF odB : Option Addr} {ta tc td tg th ti : Tok} {nE nF nB : Nat} {slE slF slB : Array (Option Value)}
    {f0 : Addr} {od0 an0 : Option Addr} {sl0 : Array (Option Value)} {oc0 kV0 dc0 pm0 ct0 : Value} {cd0 : Value}
    (a0 : PySem.W.nsIn K mainGlobals "field_bits" = some (some (.ref f0))) (l0 : K.lookup f0 = some ⟨oc0, od0, .func (PySem.W.fnOf "field_bits" "field_bits" (defArgs s_field_bits) (defBody s_field_bits) (defScope s_field_bits) .none kV0 dc0 pm0 an0 cd0 ct0), sl0⟩) (c0 : PySem.W.codeIn K cd0 "field_bits" = true) (k0 : PySem.W.keepIn K (.ref f0) = true)
    {f1 : Addr} {od1 an1 : Option Addr} {sl1 : Array (Option Value)} {oc1 kV1 dc1 pm1 ct1 : Value} {cd1 : Value}
    (a1 : PySem.W.nsIn K mainGlobals "low_in" = some (some (.ref f1))) (l1 : K.lookup f1 = some ⟨oc1, od1, .func (PySem.W.fnOf "low_in" "low_in" (defArgs s_low_in) (defBody s_low_in) (defScope s_low_in) .none kV1 dc1 pm1 an1 cd1 ct1), sl1⟩) (c1 : PySem.W.codeIn K cd1 "low_in" = true) (k1 : PySem.W.keepIn K (.ref f1) = true)
    {f2 : Addr} {od2 an2 : Option Addr} {sl2 : Array (Option Value)} {oc2 kV2 dc2 pm2 ct2 : Value} {cd2 : Value}
    (a2 : PySem.W.nsIn K mainGlobals "_law_cell" = some (some (.ref f2))) (l2 : K.lookup f2 = some ⟨oc2, od2, .func (PySem.W.fnOf "_law_cell" "_law_cell" (defArgs s_law_cell) (defBody s_law_cell) (defScope s_law_cell) .none kV2 dc2 pm2 an2 cd2 ct2), sl2⟩) (c2 : PySem.W.codeIn K cd2 "_law_cell" = true) (k2 : PySem.W.keepIn K (.ref f2) = true)
    {f3 : Addr} {od3 an3 : Option Addr} {sl3 : Array (Option Value)} {oc3 kV3 dc3 pm3 ct3 : Value} {cd3 : Value}
    (a3 : PySem.W.nsIn K mainGlobals "gamma_bits" = some (some (.ref f3))) (l3 : K.lookup f3 = some ⟨oc3, od3, .func (PySem.W.fnOf "gamma_bits" "gamma_bits" (defArgs s_gamma_bits) (defBody s_gamma_bits) (defScope s_gamma_bits) .none kV3 dc3 pm3 an3 cd3 ct3), sl3⟩) (c3 : PySem.W.codeIn K cd3 "gamma_bits" = true) (k3 : PySem.W.keepIn K (.ref f3) = true)
    {f4 : Addr} {od4 an4 : Option Addr} {sl4 : Array (Option Value)} {oc4 kV4 dc4 pm4 ct4 : Value} {cd4 : Value}
    (a4 : PySem.W.nsIn K mainGlobals "narrowed" = some (some (.ref f4))) (l4 : K.lookup f4 = some ⟨oc4, od4, .func (PySem.W.fnOf "narrowed" "narrowed" (defArgs s_narrowed) (defBody s_narrowed) (defScope s_narrowed) .none kV4 dc4 pm4 an4 cd4 ct4), sl4⟩) (c4 : PySem.W.codeIn K cd4 "narrowed" = true) (k4 : PySem.W.keepIn K (.ref f4) = true)
    {f5 : Addr} {od5 an5 : Option Addr} {sl5 : Array (Option Value)} {oc5 kV5 dc5 pm5 ct5 : Value} {cd5 : Value}
    (a5 : PySem.W.nsIn K mainGlobals "interval" = some (some (.ref f5))) (l5 : K.lookup f5 = some ⟨oc5, od5, .func (PySem.W.fnOf "interval" "interval" (defArgs s_interval) (defBody s_interval) (defScope s_interval) .none kV5 dc5 pm5 an5 cd5 ct5), sl5⟩) (c5 : PySem.W.codeIn K cd5 "interval" = true) (k5 : PySem.W.keepIn K (.ref f5) = true)
    {f6 : Addr} {od6 an6 : Option Addr} {sl6 : Array (Option Value)} {oc6 kV6 dc6 pm6 ct6 : Value} {cd6 : Value}
    (a6 : PySem.W.nsIn K mainGlobals "least_exponent" = some (some (.ref f6))) (l6 : K.lookup f6 = some ⟨oc6, od6, .func (PySem.W.fnOf "least_exponent" "least_exponent" (defArgs s_least_exponent) (defBody s_least_exponent) (defScope s_least_exponent) .none kV6 dc6 pm6 an6 cd6 ct6), sl6⟩) (c6 : PySem.W.codeIn K cd6 "least_exponent" = true) (k6 : PySem.W.keepIn K (.ref f6) = true)
    {f7 : Addr} {od7 an7 : Option Addr} {sl7 : Array (Option Value)} {oc7 kV7 dc7 pm7 ct7 : Value} {cd7 : Value}
    (a7 : PySem.W.nsIn K mainGlobals "holds" = some (some (.ref f7))) (l7 : K.lookup f7 = some ⟨oc7, od7, .func (PySem.W.fnOf "holds" "holds" (defArgs s_holds) (defBody s_holds) (defScope s_holds) .none kV7 dc7 pm7 an7 cd7 ct7), sl7⟩) (c7 : PySem.W.codeIn K cd7 "holds" = true) (k7 : PySem.W.keepIn K (.ref f7) = true)
    {f8 : Addr} {od8 an8 : Option Addr} {sl8 : Array (Option Value)} {oc8 kV8 dc8 pm8 ct8 : Value} {cd8 : Value}
    (a8 : PySem.W.nsIn K mainGlobals "first_number" = some (some (.ref f8))) (l8 : K.lookup f8 = some ⟨oc8, od8, .func (PySem.W.fnOf "first_number" "first_number" (defArgs s_first_number) (defBody s_first_number) (defScope s_first_number) .none kV8 dc8 pm8 an8 cd8 ct8), sl8⟩) (c8 : PySem.W.codeIn K cd8 "first_number" = true) (k8 : PySem.W.keepIn K (.ref f8) = true)
    {f9 : Addr} {od9 an9 : Option Addr} {sl9 : Array (Option Value)} {oc9 kV9 dc9 pm9 ct9 : Value} {cd9 : Value}
    (a9 : PySem.W.nsIn K mainGlobals "encode_message" = some (some (.ref f9))) (l9 : K.lookup f9 = some ⟨oc9, od9, .func (PySem.W.fnOf "encode_message" "encode_message" (defArgs s_encode_message) (defBody s_encode_message) (defScope s_encode_message) .none kV9 dc9 pm9 an9 cd9 ct9), sl9⟩) (c9 : PySem.W.codeIn K cd9 "encode_message" = true) (k9 : PySem.W.keepIn K (.ref f9) = true)
    {f10 : Addr} {od10 an10 : Option Addr} {sl10 : Array (Option Value)} {oc10 kV10 dc10 pm10 ct10 : Value} {g10 P0 : Addr} {vc10 : Value} {vd10 : Option Addr} {us10 : Array Value} {vl10 : Array (Option Value)}
    (a10 : PySem.W.nsIn K mainGlobals "ranks" = some (some (.ref f10))) (l10 : K.lookup f10 = some ⟨oc10, od10, .func (PySem.W.fnOf "ranks" "ranks" (defArgs s_ranks) (defBody s_ranks) (defScope s_ranks) .none kV10 dc10 pm10 an10 (.ref g10) ct10), sl10⟩) (c10 : PySem.W.codeIn K (.ref g10) "ranks" = true) (k10 : PySem.W.keepIn K (.ref f10) = true)
    (v10 : K.lookup g10 = some ⟨vc10, vd10, .fields us10, vl10⟩) (p10 : us10[11]? = some (.ref P0)) (t10 : PySem.W.codeHdIn K g10 P0 = true) (n10 : K.lookup P0 = none)
    {f11 : Addr} {od11 an11 : Option Addr} {sl11 : Array (Option Value)} {oc11 kV11 dc11 pm11 ct11 : Value} {cd11 : Value}
    (a11 : PySem.W.nsIn K mainGlobals "rests" = some (some (.ref f11))) (l11 : K.lookup f11 = some ⟨oc11, od11, .func (PySem.W.fnOf "rests" "rests" (defArgs s_rests) (defBody s_rests) (defScope s_rests) .none kV11 dc11 pm11 an11 cd11 ct11), sl11⟩) (c11 : PySem.W.codeIn K cd11 "rests" = true) (k11 : PySem.W.keepIn K (.ref f11) = true)
    {f12 : Addr} {od12 an12 : Option Addr} {sl12 : Array (Option Value)} {oc12 kV12 dc12 pm12 ct12 : Value} {cd12 : Value}
    (a12 : PySem.W.nsIn K mainGlobals "word_counts" = some (some (.ref f12))) (l12 : K.lookup f12 = some ⟨oc12, od12, .func (PySem.W.fnOf "word_counts" "word_counts" (defArgs s_word_counts) (defBody s_word_counts) (defScope s_word_counts) .none kV12 dc12 pm12 an12 cd12 ct12), sl12⟩) (c12 : PySem.W.codeIn K cd12 "word_counts" = true) (k12 : PySem.W.keepIn K (.ref f12) = true)
    {f13 : Addr} {od13 an13 : Option Addr} {sl13 : Array (Option Value)} {oc13 kV13 dc13 pm13 ct13 : Value} {cd13 : Value}
    (a13 : PySem.W.nsIn K mainGlobals "stage_choices" = some (some (.ref f13))) (l13 : K.lookup f13 = some ⟨oc13, od13, .func (PySem.W.fnOf "stage_choices" "stage_choices" (defArgs s_stage_choices) (defBody s_stage_choices) (defScope s_stage_choices) .none kV13 dc13 pm13 an13 cd13 ct13), sl13⟩) (c13 : PySem.W.codeIn K cd13 "stage_choices" = true) (k13 : PySem.W.keepIn K (.ref f13) = true)
    {f14 : Addr} {od14 an14 : Option Addr} {sl14 : Array (Option Value)} {oc14 kV14 dc14 pm14 ct14 : Value} {cd14 : Value}
    (a14 : PySem.W.nsIn K mainGlobals "reached_stages" = some (some (.ref f14))) (l14 : K.lookup f14 = some ⟨oc14, od14, .func (PySem.W.fnOf "reached_stages" "reached_stages" (defArgs s_reached_stages) (defBody s_reached_stages) (defScope s_reached_stages) .none kV14 dc14 pm14 an14 cd14 ct14), sl14⟩) (c14 : PySem.W.codeIn K cd14 "reached_stages" = true) (k14 : PySem.W.keepIn K (.ref f14) = true)
    {f15 : Addr} {od15 an15 : Option Addr} {sl15 : Array (Option Value)} {oc15 kV15 dc15 pm15 ct15 : Value} {cd15 : Value}
    (a15 : PySem.W.nsIn K mainGlobals "least_sum" = some (some (.ref f15))) (l15 : K.lookup f15 = some ⟨oc15, od15, .func (PySem.W.fnOf "least_sum" "least_sum" (defArgs s_least_sum) (defBody s_least_sum) (defScope s_least_sum) .none kV15 dc15 pm15 an15 cd15 ct15), sl15⟩) (c15 : PySem.W.codeIn K cd15 "least_sum" = true) (k15 : PySem.W.keepIn K (.ref f15) = true)
    {f16 : Addr} {od16 an16 : Option Addr} {sl16 : Array (Option Value)} {oc16 kV16 dc16 pm16 ct16 : Value} {cd16 : Value}
    (a16 : PySem.W.nsIn K mainGlobals "stage_values" = some (some (.ref f16))) (l16 : K.lookup f16 = some ⟨oc16, od16, .func (PySem.W.fnOf "stage_values" "stage_values" (defArgs s_stage_values) (defBody s_stage_values) (defScope s_stage_values) .none kV16 dc16 pm16 an16 cd16 ct16), sl16⟩) (c16 : PySem.W.codeIn K cd16 "stage_values" = true) (k16 : PySem.W.keepIn K (.ref f16) = true)
    {f17 : Addr} {od17 an17 : Option Addr} {sl17 : Array (Option Value)} {oc17 kV17 dc17 pm17 ct17 : Value} {cd17 : Value}
    (a17 : PySem.W.nsIn K mainGlobals "least_lengths" = some (some (.ref f17))) (l17 : K.lookup f17 = some ⟨oc17, od17, .func (PySem.W.fnOf "least_lengths" "least_lengths" (defArgs s_least_lengths) (defBody s_least_lengths) (defScope s_least_lengths) .none kV17 dc17 pm17 an17 cd17 ct17), sl17⟩) (c17 : PySem.W.codeIn K cd17 "least_lengths" = true) (k17 : PySem.W.keepIn K (.ref f17) = true)
    {f18 : Addr} {od18 an18 : Option Addr} {sl18 : Array (Option Value)} {oc18 kV18 dc18 pm18 ct18 : Value} {g18 P1 : Addr} {vc18 : Value} {vd18 : Option Addr} {us18 : Array Value} {vl18 : Array (Option Value)}
    (a18 : PySem.W.nsIn K mainGlobals "words" = some (some (.ref f18))) (l18 : K.lookup f18 = some ⟨oc18, od18, .func (PySem.W.fnOf "words" "words" (defArgs s_words) (defBody s_words) (defScope s_words) .none kV18 dc18 pm18 an18 (.ref g18) ct18), sl18⟩) (c18 : PySem.W.codeIn K (.ref g18) "words" = true) (k18 : PySem.W.keepIn K (.ref f18) = true)
    (v18 : K.lookup g18 = some ⟨vc18, vd18, .fields us18, vl18⟩) (p18 : us18[11]? = some (.ref P1)) (t18 : PySem.W.codeHdIn K g18 P1 = true) (n18 : K.lookup P1 = none)
    {f19 : Addr} {od19 an19 : Option Addr} {sl19 : Array (Option Value)} {oc19 kV19 dc19 pm19 ct19 : Value} {cd19 : Value}
    (a19 : PySem.W.nsIn K mainGlobals "write_symbols" = some (some (.ref f19))) (l19 : K.lookup f19 = some ⟨oc19, od19, .func (PySem.W.fnOf "write_symbols" "write_symbols" (defArgs s_write_symbols) (defBody s_write_symbols) (defScope s_write_symbols) .none kV19 dc19 pm19 an19 cd19 ct19), sl19⟩) (c19 : PySem.W.codeIn K cd19 "write_symbols" = true) (k19 : PySem.W.keepIn K (.ref f19) = true)
    {f20 : Addr} {od20 an20 : Option Addr} {sl20 : Array (Option Value)} {oc20 kV20 dc20 pm20 ct20 : Value} {cd20 : Value}
    (a20 : PySem.W.nsIn K mainGlobals "symbol_width" = some (some (.ref f20))) (l20 : K.lookup f20 = some ⟨oc20, od20, .func (PySem.W.fnOf "symbol_width" "symbol_width" (defArgs s_symbol_width) (defBody s_symbol_width) (defScope s_symbol_width) .none kV20 dc20 pm20 an20 cd20 ct20), sl20⟩) (c20 : PySem.W.codeIn K cd20 "symbol_width" = true) (k20 : PySem.W.keepIn K (.ref f20) = true)
    {f21 : Addr} {od21 an21 : Option Addr} {sl21 : Array (Option Value)} {oc21 kV21 dc21 pm21 ct21 : Value} {cd21 : Value}
    (a21 : PySem.W.nsIn K mainGlobals "block_counts" = some (some (.ref f21))) (l21 : K.lookup f21 = some ⟨oc21, od21, .func (PySem.W.fnOf "block_counts" "block_counts" (defArgs s_block_counts) (defBody s_block_counts) (defScope s_block_counts) .none kV21 dc21 pm21 an21 cd21 ct21), sl21⟩) (c21 : PySem.W.codeIn K cd21 "block_counts" = true) (k21 : PySem.W.keepIn K (.ref f21) = true)
    {f22 : Addr} {od22 an22 : Option Addr} {sl22 : Array (Option Value)} {oc22 kV22 dc22 pm22 ct22 : Value} {cd22 : Value}
    (a22 : PySem.W.nsIn K mainGlobals "block_lengths" = some (some (.ref f22))) (l22 : K.lookup f22 = some ⟨oc22, od22, .func (PySem.W.fnOf "block_lengths" "block_lengths" (defArgs s_block_lengths) (defBody s_block_lengths) (defScope s_block_lengths) .none kV22 dc22 pm22 an22 cd22 ct22), sl22⟩) (c22 : PySem.W.codeIn K cd22 "block_lengths" = true) (k22 : PySem.W.keepIn K (.ref f22) = true)
    {f23 : Addr} {od23 an23 : Option Addr} {sl23 : Array (Option Value)} {oc23 kV23 dc23 pm23 ct23 : Value} {cd23 : Value}
    (a23 : PySem.W.nsIn K mainGlobals "model_bits" = some (some (.ref f23))) (l23 : K.lookup f23 = some ⟨oc23, od23, .func (PySem.W.fnOf "model_bits" "model_bits" (defArgs s_model_bits) (defBody s_model_bits) (defScope s_model_bits) .none kV23 dc23 pm23 an23 cd23 ct23), sl23⟩) (c23 : PySem.W.codeIn K cd23 "model_bits" = true) (k23 : PySem.W.keepIn K (.ref f23) = true)
    {f24 : Addr} {od24 an24 : Option Addr} {sl24 : Array (Option Value)} {oc24 kV24 dc24 pm24 ct24 : Value} {cd24 : Value}
    (a24 : PySem.W.nsIn K mainGlobals "field_body" = some (some (.ref f24))) (l24 : K.lookup f24 = some ⟨oc24, od24, .func (PySem.W.fnOf "field_body" "field_body" (defArgs s_field_body) (defBody s_field_body) (defScope s_field_body) .none kV24 dc24 pm24 an24 cd24 ct24), sl24⟩) (c24 : PySem.W.codeIn K cd24 "field_body" = true) (k24 : PySem.W.keepIn K (.ref f24) = true)
    {f25 : Addr} {od25 an25 : Option Addr} {sl25 : Array (Option Value)} {oc25 kV25 dc25 pm25 ct25 : Value} {cd25 : Value}
    (a25 : PySem.W.nsIn K mainGlobals "prefix_body" = some (some (.ref f25))) (l25 : K.lookup f25 = some ⟨oc25, od25, .func (PySem.W.fnOf "prefix_body" "prefix_body" (defArgs s_prefix_body) (defBody s_prefix_body) (defScope s_prefix_body) .none kV25 dc25 pm25 an25 cd25 ct25), sl25⟩) (c25 : PySem.W.codeIn K cd25 "prefix_body" = true) (k25 : PySem.W.keepIn K (.ref f25) = true)
    {f26 : Addr} {od26 an26 : Option Addr} {sl26 : Array (Option Value)} {oc26 kV26 dc26 pm26 ct26 : Value} {cd26 : Value}
    (a26 : PySem.W.nsIn K mainGlobals "counts_body" = some (some (.ref f26))) (l26 : K.lookup f26 = some ⟨oc26, od26, .func (PySem.W.fnOf "counts_body" "counts_body" (defArgs s_counts_body) (defBody s_counts_body) (defScope s_counts_body) .none kV26 dc26 pm26 an26 cd26 ct26), sl26⟩) (c26 : PySem.W.codeIn K cd26 "counts_body" = true) (k26 : PySem.W.keepIn K (.ref f26) = true)
    {f27 : Addr} {od27 an27 : Option Addr} {sl27 : Array (Option Value)} {oc27 kV27 dc27 pm27 ct27 : Value} {cd27 : Value}
    (a27 : PySem.W.nsIn K mainGlobals "learner_body" = some (some (.ref f27))) (l27 : K.lookup f27 = some ⟨oc27, od27, .func (PySem.W.fnOf "learner_body" "learner_body" (defArgs s_learner_body) (defBody s_learner_body) (defScope s_learner_body) .none kV27 dc27 pm27 an27 cd27 ct27), sl27⟩) (c27 : PySem.W.codeIn K cd27 "learner_body" = true) (k27 : PySem.W.keepIn K (.ref f27) = true)
    {f28 : Addr} {od28 an28 : Option Addr} {sl28 : Array (Option Value)} {oc28 kV28 dc28 pm28 ct28 : Value} {cd28 : Value}
    (a28 : PySem.W.nsIn K mainGlobals "body" = some (some (.ref f28))) (l28 : K.lookup f28 = some ⟨oc28, od28, .func (PySem.W.fnOf "body" "body" (defArgs s_body) (defBody s_body) (defScope s_body) .none kV28 dc28 pm28 an28 cd28 ct28), sl28⟩) (c28 : PySem.W.codeIn K cd28 "body" = true) (k28 : PySem.W.keepIn K (.ref f28) = true)
    {f29 : Addr} {od29 an29 : Option Addr} {sl29 : Array (Option Value)} {oc29 kV29 dc29 pm29 ct29 : Value} {cd29 : Value}
    (a29 : PySem.W.nsIn K mainGlobals "write_block" = some (some (.ref f29))) (l29 : K.lookup f29 = some ⟨oc29, od29, .func (PySem.W.fnOf "write_block" "write_block" (defArgs s_write_block) (defBody s_write_block) (defScope s_write_block) .none kV29 dc29 pm29 an29 cd29 ct29), sl29⟩) (c29 : PySem.W.codeIn K cd29 "write_block" = true) (k29 : PySem.W.keepIn K (.ref f29) = true)
    {f30 : Addr} {od30 an30 : Option Addr} {sl30 : Array (Option Value)} {oc30 kV30 dc30 pm30 ct30 : Value} {cd30 : Value}
    (a30 : PySem.W.nsIn K mainGlobals "_law_block" = some (some (.ref f30))) (l30 : K.lookup f30 = some ⟨oc30, od30, .func (PySem.W.fnOf "_law_block" "_law_block" (defArgs s_law_block) (defBody s_law_block) (defScope s_law_block) .none kV30 dc30 pm30 an30 cd30 ct30), sl30⟩) (c30 : PySem.W.codeIn K cd30 "_law_block" = true) (k30 : PySem.W.keepIn K (.ref f30) = true)
    {f31 : Addr} {od31 an31 : Option Addr} {sl31 : Array (Option Value)} {oc31 kV31 dc31 pm31 ct31 : Value} {cd31 : Value}
    (a31 : PySem.W.nsIn K mainGlobals "_law_gamma" = some (some (.ref f31))) (l31 : K.lookup f31 = some ⟨oc31, od31, .func (PySem.W.fnOf "_law_gamma" "_law_gamma" (defArgs s_law_gamma) (defBody s_law_gamma) (defScope s_law_gamma) .none kV31 dc31 pm31 an31 cd31 ct31), sl31⟩) (c31 : PySem.W.codeIn K cd31 "_law_gamma" = true) (k31 : PySem.W.keepIn K (.ref f31) = true)
    {f32 : Addr} {od32 an32 : Option Addr} {sl32 : Array (Option Value)} {oc32 kV32 dc32 pm32 ct32 : Value} {cd32 : Value}
    (a32 : PySem.W.nsIn K mainGlobals "_law_width" = some (some (.ref f32))) (l32 : K.lookup f32 = some ⟨oc32, od32, .func (PySem.W.fnOf "_law_width" "_law_width" (defArgs s_law_width) (defBody s_law_width) (defScope s_law_width) .none kV32 dc32 pm32 an32 cd32 ct32), sl32⟩) (c32 : PySem.W.codeIn K cd32 "_law_width" = true) (k32 : PySem.W.keepIn K (.ref f32) = true)
    {f33 : Addr} {od33 an33 : Option Addr} {sl33 : Array (Option Value)} {oc33 kV33 dc33 pm33 ct33 : Value} {cd33 : Value}
    (a33 : PySem.W.nsIn K mainGlobals "_law_lengths" = some (some (.ref f33))) (l33 : K.lookup f33 = some ⟨oc33, od33, .func (PySem.W.fnOf "_law_lengths" "_law_lengths" (defArgs s_law_lengths) (defBody s_law_lengths) (defScope s_law_lengths) .none kV33 dc33 pm33 an33 cd33 ct33), sl33⟩) (c33 : PySem.W.codeIn K cd33 "_law_lengths" = true) (k33 : PySem.W.keepIn K (.ref f33) = true)
    {f34 : Addr} {od34 an34 : Option Addr} {sl34 : Array (Option Value)} {oc34 kV34 dc34 pm34 ct34 : Value} {cd34 : Value}
    (a34 : PySem.W.nsIn K mainGlobals "_law_body" = some (some (.ref f34))) (l34 : K.lookup f34 = some ⟨oc34, od34, .func (PySem.W.fnOf "_law_body" "_law_body" (defArgs s_law_body) (defBody s_law_body) (defScope s_law_body) .none kV34 dc34 pm34 an34 cd34 ct34), sl34⟩) (c34 : PySem.W.codeIn K cd34 "_law_body" = true) (k34 : PySem.W.keepIn K (.ref f34) = true)
    {f35 : Addr} {od35 an35 : Option Addr} {sl35 : Array (Option Value)} {oc35 kV35 dc35 pm35 ct35 : Value} {cd35 : Value}
    (a35 : PySem.W.nsIn K mainGlobals "law" = some (some (.ref f35))) (l35 : K.lookup f35 = some ⟨oc35, od35, .func (PySem.W.fnOf "law" "law" (defArgs s_law) (defBody s_law) (defScope s_law) .none kV35 dc35 pm35 an35 cd35 ct35), sl35⟩) (c35 : PySem.W.codeIn K cd35 "law" = true) (k35 : PySem.W.keepIn K (.ref f35) = true)
    (z_len : PySem.W.nsIn K mainGlobals "len" = some none)
    (z_int : PySem.W.nsIn K mainGlobals "int" = some none)
    (z_min : PySem.W.nsIn K mainGlobals "min" = some none)
    (z_max : PySem.W.nsIn K mainGlobals "max" = some none)
    (z_list : PySem.W.nsIn K mainGlobals "list" = some none)
    (z_sorted : PySem.W.nsIn K mainGlobals "sorted" = some none)
    (z_sum : PySem.W.nsIn K mainGlobals "sum" = some none)
    (z_range : PySem.W.nsIn K mainGlobals "range" = some none)
    (z_enumerate : PySem.W.nsIn K mainGlobals "enumerate" = some none)
    (z_zip : PySem.W.nsIn K mainGlobals "zip" = some none)
    (z_any : PySem.W.nsIn K mainGlobals "any" = some none)
    (z_isinstance : PySem.W.nsIn K mainGlobals "isinstance" = some none)
    (z_bool : PySem.W.nsIn K mainGlobals "bool" = some none)
    (z_reversed : PySem.W.nsIn K mainGlobals "reversed" = some none)
    {g1 : Tok}
    (yg_STEP : PySem.W.nsIn K mainGlobals "STEP" = some (some (.int 8 g1)))
    {g2 : Tok}
    (yg_LIMIT : PySem.W.nsIn K mainGlobals "LIMIT" = some (some (.int 1000 g2)))
    {g3 : Tok}
    (yg_LENGTH_WIDTH : PySem.W.nsIn K mainGlobals "LENGTH_WIDTH" = some (some (.int 4 g3)))
    {g4 : Tok}
    (yg_LONGEST_WORD : PySem.W.nsIn K mainGlobals "LONGEST_WORD" = some (some (.int 15 g4)))
    {g5 : Tok}
    (yg_FORM_WIDTH : PySem.W.nsIn K mainGlobals "FORM_WIDTH" = some (some (.int 2 g5)))
    (yE : PySem.W.nsIn K mainGlobals "EMPTY" = some (some (.ref ae)))
    (lE : K.lookup ae = some ⟨.type "tuple", odE, .seq #[.int 0 ta, .int 1 tc, .int 1 td] nE, slE⟩)
    (yF : PySem.W.nsIn K mainGlobals "FIRST" = some (some (.ref tf)))
    (lF : K.lookup tf = some ⟨.type "tuple", odF, .seq #[.int 0 tg, .int 0 th, .int 1 ti] nF, slF⟩)
    {C0 C1 : Addr}
    (aC0 : PySem.W.nsIn K mainGlobals "Counts" = some (some (.ref C0)))
    (pg0 : PySem.W.plainGet K C0 Str.empty = true)
    (hd_0 : PySem.W.hasDictIn K C0 = true)
    (po0 : PySem.W.plainOver K C0 = true)
    (sa0 : PySem.W.findIn K (.ref C0) "__setattr__" = some (some (.builtin "object.__setattr__")))
    (mk0 : PySem.W.makesIn K C0 = true)
    (kc0 : PySem.W.keepIn K (.ref C0) = true)
    (na0_weights : PySem.W.findIn K (.ref C0) "weights" = some none)
    {fm0_init : Addr} {od0_init an0_init : Option Addr} {sl0_init : Array (Option Value)} {oc0_init kV0_init dc0_init pm0_init ct0_init cd0_init : Value}
    (b0_init : PySem.W.findIn K (.ref C0) "__init__" = some (some (.ref fm0_init)))
    (i0_init : PySem.W.isFn K (.ref fm0_init) = true)
    (l0_init : K.lookup fm0_init = some ⟨oc0_init, od0_init, .func (PySem.W.fnOf "__init__" "Counts.__init__" (defArgs s_Counts_init) (defBody s_Counts_init) (defScope s_Counts_init) .none kV0_init dc0_init pm0_init an0_init cd0_init ct0_init), sl0_init⟩)
    (c0_init : PySem.W.codeIn K cd0_init "Counts.__init__" = true)
    (k0_init : PySem.W.keepIn K (.ref fm0_init) = true)
    {fm0_total : Addr} {od0_total an0_total : Option Addr} {sl0_total : Array (Option Value)} {oc0_total kV0_total dc0_total pm0_total ct0_total cd0_total : Value}
    (b0_total : PySem.W.findIn K (.ref C0) "total" = some (some (.ref fm0_total)))
    (i0_total : PySem.W.isFn K (.ref fm0_total) = true)
    (l0_total : K.lookup fm0_total = some ⟨oc0_total, od0_total, .func (PySem.W.fnOf "total" "Counts.total" (defArgs s_Counts_total) (defBody s_Counts_total) (defScope s_Counts_total) .none kV0_total dc0_total pm0_total an0_total cd0_total ct0_total), sl0_total⟩)
    (c0_total : PySem.W.codeIn K cd0_total "Counts.total" = true)
    (k0_total : PySem.W.keepIn K (.ref fm0_total) = true)
    {fm0_low : Addr} {od0_low an0_low : Option Addr} {sl0_low : Array (Option Value)} {oc0_low kV0_low dc0_low pm0_low ct0_low cd0_low : Value}
    (b0_low : PySem.W.findIn K (.ref C0) "low" = some (some (.ref fm0_low)))
    (i0_low : PySem.W.isFn K (.ref fm0_low) = true)
    (l0_low : K.lookup fm0_low = some ⟨oc0_low, od0_low, .func (PySem.W.fnOf "low" "Counts.low" (defArgs s_Counts_low) (defBody s_Counts_low) (defScope s_Counts_low) .none kV0_low dc0_low pm0_low an0_low cd0_low ct0_low), sl0_low⟩)
    (c0_low : PySem.W.codeIn K cd0_low "Counts.low" = true)
    (k0_low : PySem.W.keepIn K (.ref fm0_low) = true)
    {fm0_weight : Addr} {od0_weight an0_weight : Option Addr} {sl0_weight : Array (Option Value)} {oc0_weight kV0_weight dc0_weight pm0_weight ct0_weight cd0_weight : Value}
    (b0_weight : PySem.W.findIn K (.ref C0) "weight" = some (some (.ref fm0_weight)))
    (i0_weight : PySem.W.isFn K (.ref fm0_weight) = true)
    (l0_weight : K.lookup fm0_weight = some ⟨oc0_weight, od0_weight, .func (PySem.W.fnOf "weight" "Counts.weight" (defArgs s_Counts_weight) (defBody s_Counts_weight) (defScope s_Counts_weight) .none kV0_weight dc0_weight pm0_weight an0_weight cd0_weight ct0_weight), sl0_weight⟩)
    (c0_weight : PySem.W.codeIn K cd0_weight "Counts.weight" = true)
    (k0_weight : PySem.W.keepIn K (.ref fm0_weight) = true)
    {fm0_learn : Addr} {od0_learn an0_learn : Option Addr} {sl0_learn : Array (Option Value)} {oc0_learn kV0_learn dc0_learn pm0_learn ct0_learn cd0_learn : Value}
    (b0_learn : PySem.W.findIn K (.ref C0) "learn" = some (some (.ref fm0_learn)))
    (i0_learn : PySem.W.isFn K (.ref fm0_learn) = true)
    (l0_learn : K.lookup fm0_learn = some ⟨oc0_learn, od0_learn, .func (PySem.W.fnOf "learn" "Counts.learn" (defArgs s_Counts_learn) (defBody s_Counts_learn) (defScope s_Counts_learn) .none kV0_learn dc0_learn pm0_learn an0_learn cd0_learn ct0_learn), sl0_learn⟩)
    (c0_learn : PySem.W.codeIn K cd0_learn "Counts.learn" = true)
    (k0_learn : PySem.W.keepIn K (.ref fm0_learn) = true)
    {fm0_fresh : Addr} {od0_fresh an0_fresh : Option Addr} {sl0_fresh : Array (Option Value)} {oc0_fresh kV0_fresh dc0_fresh pm0_fresh ct0_fresh cd0_fresh : Value}
    (b0_fresh : PySem.W.findIn K (.ref C0) "fresh" = some (some (.ref fm0_fresh)))
    (i0_fresh : PySem.W.isFn K (.ref fm0_fresh) = true)
    (l0_fresh : K.lookup fm0_fresh = some ⟨oc0_fresh, od0_fresh, .func (PySem.W.fnOf "fresh" "Counts.fresh" (defArgs s_Counts_fresh) (defBody s_Counts_fresh) (defScope s_Counts_fresh) .none kV0_fresh dc0_fresh pm0_fresh an0_fresh cd0_fresh ct0_fresh), sl0_fresh⟩)
    (c0_fresh : PySem.W.codeIn K cd0_fresh "Counts.fresh" = true)
    (k0_fresh : PySem.W.keepIn K (.ref fm0_fresh) = true)
    (aC1 : PySem.W.nsIn K mainGlobals "Learner" = some (some (.ref C1)))
    (pg1 : PySem.W.plainGet K C1 Str.empty = true)
    (hd_1 : PySem.W.hasDictIn K C1 = true)
    (po1 : PySem.W.plainOver K C1 = true)
    (sa1 : PySem.W.findIn K (.ref C1) "__setattr__" = some (some (.builtin "object.__setattr__")))
    (mk1 : PySem.W.makesIn K C1 = true)
    (kc1 : PySem.W.keepIn K (.ref C1) = true)
    (na1_weights : PySem.W.findIn K (.ref C1) "weights" = some none)
    (na1_step : PySem.W.findIn K (.ref C1) "step" = some none)
    (na1_limit : PySem.W.findIn K (.ref C1) "limit" = some none)
    {fm1_init : Addr} {od1_init an1_init : Option Addr} {sl1_init : Array (Option Value)} {oc1_init kV1_init dc1_init pm1_init ct1_init cd1_init : Value}
    (b1_init : PySem.W.findIn K (.ref C1) "__init__" = some (some (.ref fm1_init)))
    (i1_init : PySem.W.isFn K (.ref fm1_init) = true)
    (l1_init : K.lookup fm1_init = some ⟨oc1_init, od1_init, .func (PySem.W.fnOf "__init__" "Learner.__init__" (defArgs s_Learner_init) (defBody s_Learner_init) (defScope s_Learner_init) .none kV1_init dc1_init pm1_init an1_init cd1_init ct1_init), sl1_init⟩)
    (c1_init : PySem.W.codeIn K cd1_init "Learner.__init__" = true)
    (k1_init : PySem.W.keepIn K (.ref fm1_init) = true)
    {fm1_total : Addr} {od1_total an1_total : Option Addr} {sl1_total : Array (Option Value)} {oc1_total kV1_total dc1_total pm1_total ct1_total cd1_total : Value}
    (b1_total : PySem.W.findIn K (.ref C1) "total" = some (some (.ref fm1_total)))
    (i1_total : PySem.W.isFn K (.ref fm1_total) = true)
    (l1_total : K.lookup fm1_total = some ⟨oc1_total, od1_total, .func (PySem.W.fnOf "total" "Learner.total" (defArgs s_Learner_total) (defBody s_Learner_total) (defScope s_Learner_total) .none kV1_total dc1_total pm1_total an1_total cd1_total ct1_total), sl1_total⟩)
    (c1_total : PySem.W.codeIn K cd1_total "Learner.total" = true)
    (k1_total : PySem.W.keepIn K (.ref fm1_total) = true)
    {fm1_low : Addr} {od1_low an1_low : Option Addr} {sl1_low : Array (Option Value)} {oc1_low kV1_low dc1_low pm1_low ct1_low cd1_low : Value}
    (b1_low : PySem.W.findIn K (.ref C1) "low" = some (some (.ref fm1_low)))
    (i1_low : PySem.W.isFn K (.ref fm1_low) = true)
    (l1_low : K.lookup fm1_low = some ⟨oc1_low, od1_low, .func (PySem.W.fnOf "low" "Learner.low" (defArgs s_Learner_low) (defBody s_Learner_low) (defScope s_Learner_low) .none kV1_low dc1_low pm1_low an1_low cd1_low ct1_low), sl1_low⟩)
    (c1_low : PySem.W.codeIn K cd1_low "Learner.low" = true)
    (k1_low : PySem.W.keepIn K (.ref fm1_low) = true)
    {fm1_weight : Addr} {od1_weight an1_weight : Option Addr} {sl1_weight : Array (Option Value)} {oc1_weight kV1_weight dc1_weight pm1_weight ct1_weight cd1_weight : Value}
    (b1_weight : PySem.W.findIn K (.ref C1) "weight" = some (some (.ref fm1_weight)))
    (i1_weight : PySem.W.isFn K (.ref fm1_weight) = true)
    (l1_weight : K.lookup fm1_weight = some ⟨oc1_weight, od1_weight, .func (PySem.W.fnOf "weight" "Learner.weight" (defArgs s_Learner_weight) (defBody s_Learner_weight) (defScope s_Learner_weight) .none kV1_weight dc1_weight pm1_weight an1_weight cd1_weight ct1_weight), sl1_weight⟩)
    (c1_weight : PySem.W.codeIn K cd1_weight "Learner.weight" = true)
    (k1_weight : PySem.W.keepIn K (.ref fm1_weight) = true)
    {fm1_learn : Addr} {od1_learn an1_learn : Option Addr} {sl1_learn : Array (Option Value)} {oc1_learn kV1_learn dc1_learn pm1_learn ct1_learn cd1_learn : Value}
    (b1_learn : PySem.W.findIn K (.ref C1) "learn" = some (some (.ref fm1_learn)))
    (i1_learn : PySem.W.isFn K (.ref fm1_learn) = true)
    (l1_learn : K.lookup fm1_learn = some ⟨oc1_learn, od1_learn, .func (PySem.W.fnOf "learn" "Learner.learn" (defArgs s_Learner_learn) (defBody s_Learner_learn) (defScope s_Learner_learn) .none kV1_learn dc1_learn pm1_learn an1_learn cd1_learn ct1_learn), sl1_learn⟩)
    (c1_learn : PySem.W.codeIn K cd1_learn "Learner.learn" = true)
    (k1_learn : PySem.W.keepIn K (.ref fm1_learn) = true)
    {fm1_fresh : Addr} {od1_fresh an1_fresh : Option Addr} {sl1_fresh : Array (Option Value)} {oc1_fresh kV1_fresh dc1_fresh pm1_fresh ct1_fresh cd1_fresh : Value}
    (b1_fresh : PySem.W.findIn K (.ref C1) "fresh" = some (some (.ref fm1_fresh)))
    (i1_fresh : PySem.W.isFn K (.ref fm1_fresh) = true)
    (l1_fresh : K.lookup fm1_fresh = some ⟨oc1_fresh, od1_fresh, .func (PySem.W.fnOf "fresh" "Learner.fresh" (defArgs s_Learner_fresh) (defBody s_Learner_fresh) (defScope s_Learner_fresh) .none kV1_fresh dc1_fresh pm1_fresh an1_fresh cd1_fresh ct1_fresh), sl1_fresh⟩)
    (c1_fresh : PySem.W.codeIn K cd1_fresh "Learner.fresh" = true)
    (k1_fresh : PySem.W.keepIn K (.ref fm1_fresh) = true)
    (yB : PySem.W.nsIn K mainGlobals "BODIES" = some (some (.ref tb)))
    (lB : K.lookup tb = some ⟨.type "tuple", odB, .seq #[.ref f24, .ref f25, .ref f26, .ref f27] nB, slB⟩)
    : LawX l w K CX0 13 63 "script" mg fa h := by
  have e := hfa.symm.trans (PySem.W.mg_of X G a35)
  cases e
  have hd10 : PySem.W.CodeHd h g10 P0 := PySem.W.codeHd_of_K X t10
  have em10 : h.get? P0 = some tabO := tab_emp R X r10 (PySem.W.mg_of X G a10) l10 rfl hd10
  have hd18 : PySem.W.CodeHd h g18 P1 := PySem.W.codeHd_of_K X t18
  have em18 : h.get? P1 = some tabO := tab_emp R X r18 (PySem.W.mg_of X G a18) l18 rfl hd18
  have T1 : ∀ p ∈ ([(g10, P0), (g18, P1)] : List (Addr × Addr)), h.get? p.2 = some tabO := by
    intro p hp
    simp only [List.mem_cons, List.not_mem_nil, or_false] at hp
    rcases hp with rfl | rfl
    · exact em10
    · exact em18
  have T2 : ∀ p ∈ ([(g10, P0), (g18, P1)] : List (Addr × Addr)), K.lookup p.2 = none := by
    intro p hp
    simp only [List.mem_cons, List.not_mem_nil, or_false] at hp
    rcases hp with rfl | rfl
    · exact n10
    · exact n18
  have T3 : ∀ p ∈ ([(g10, P0), (g18, P1)] : List (Addr × Addr)), PySem.W.CodeHd h p.1 p.2 := by
    intro p hp
    simp only [List.mem_cons, List.not_mem_nil, or_false] at hp
    rcases hp with rfl | rfl
    · exact hd10
    · exact hd18
  refine ⟨PySem.W.fnOf "law" "law" (defArgs s_law) (defBody s_law) (defScope s_law) .none kV35 dc35 pm35 an35 cd35 ct35, [(g10, P0), (g18, P1)], spLaw K P0 P1, ⟨T1, T2, T3⟩, fun s v => .of_eq rfl, fun H a ns hl hb hT hS => ⟨a, ns, rfl, hS, hl, hT _ (List.mem_cons_self), hT _ (List.mem_cons_of_mem _ List.mem_cons_self), fun H2 e2 => ⟨rfl, fun p hp => e2 _ _ (hT p hp)⟩⟩, fun base kb gb TB => ?_⟩
  have B : Bs mg := ⟨PySem.W.mg_none_of X G z_len, PySem.W.mg_none_of X G z_int, PySem.W.mg_none_of X G z_min, PySem.W.mg_none_of X G z_max, PySem.W.mg_none_of X G z_list, PySem.W.mg_none_of X G z_sorted, PySem.W.mg_none_of X G z_sum, PySem.W.mg_none_of X G z_range, PySem.W.mg_none_of X G z_enumerate, PySem.W.mg_none_of X G z_zip, PySem.W.mg_none_of X G z_any, PySem.W.mg_none_of X G z_isinstance, PySem.W.mg_none_of X G z_bool, PySem.W.mg_none_of X G z_reversed⟩
  have TB10 : GxR.TabB base mg g10 P0 := TB (g10, P0) (by simp)
  have TB18 : GxR.TabB base mg g18 P1 := TB (g18, P1) (by simp)
  have F0_init := fun_mk (st := s_Counts_init) l0_init c0_init k0_init
  have B0_init := F0_init.binds (ps := ["self", "weights"]) fun _ _ _ _ _ _ us hl => match us, hl with | [_, _], _ => rfl
  have F0_total := fun_mk (st := s_Counts_total) l0_total c0_total k0_total
  have B0_total := F0_total.binds (ps := ["self"]) fun _ _ _ _ _ _ us hl => match us, hl with | [_], _ => rfl
  have F0_low := fun_mk (st := s_Counts_low) l0_low c0_low k0_low
  have B0_low := F0_low.binds (ps := ["self", "symbol"]) fun _ _ _ _ _ _ us hl => match us, hl with | [_, _], _ => rfl
  have F0_weight := fun_mk (st := s_Counts_weight) l0_weight c0_weight k0_weight
  have B0_weight := F0_weight.binds (ps := ["self", "symbol"]) fun _ _ _ _ _ _ us hl => match us, hl with | [_, _], _ => rfl
  have F0_learn := fun_mk (st := s_Counts_learn) l0_learn c0_learn k0_learn
  have B0_learn := F0_learn.binds (ps := ["self", "symbol"]) fun _ _ _ _ _ _ us hl => match us, hl with | [_, _], _ => rfl
  have F0_fresh := fun_mk (st := s_Counts_fresh) l0_fresh c0_fresh k0_fresh
  have B0_fresh := F0_fresh.binds (ps := ["self"]) fun _ _ _ _ _ _ us hl => match us, hl with | [_], _ => rfl
  have F1_init := fun_mk (st := s_Learner_init) l1_init c1_init k1_init
  have B1_init := F1_init.binds (ps := ["self", "size", "step", "limit"]) fun _ _ _ _ _ _ us hl => match us, hl with | [_, _, _, _], _ => rfl
  have F1_total := fun_mk (st := s_Learner_total) l1_total c1_total k1_total
  have B1_total := F1_total.binds (ps := ["self"]) fun _ _ _ _ _ _ us hl => match us, hl with | [_], _ => rfl
  have F1_low := fun_mk (st := s_Learner_low) l1_low c1_low k1_low
  have B1_low := F1_low.binds (ps := ["self", "symbol"]) fun _ _ _ _ _ _ us hl => match us, hl with | [_, _], _ => rfl
  have F1_weight := fun_mk (st := s_Learner_weight) l1_weight c1_weight k1_weight
  have B1_weight := F1_weight.binds (ps := ["self", "symbol"]) fun _ _ _ _ _ _ us hl => match us, hl with | [_, _], _ => rfl
  have F1_learn := fun_mk (st := s_Learner_learn) l1_learn c1_learn k1_learn
  have B1_learn := F1_learn.binds (ps := ["self", "symbol"]) fun _ _ _ _ _ _ us hl => match us, hl with | [_, _], _ => rfl
  have F1_fresh := fun_mk (st := s_Learner_fresh) l1_fresh c1_fresh k1_fresh
  have B1_fresh := F1_fresh.binds (ps := ["self"]) fun _ _ _ _ _ _ us hl => match us, hl with | [_], _ => rfl
  obtain ⟨Cl, e0, e1, e2⟩ : ∃ Cl : Nat → Addr, C0 = Cl 0 ∧ C1 = Cl 1 ∧ ∀ j, Cl (j + 2) = Cl 1 := ⟨fun i => match i with | 0 => C0 | _ => C1, rfl, rfl, fun _ => rfl⟩
  subst e0 e1
  have T : Txt K Cl := ⟨⟨pg0, hd_0, po0, sa0⟩, ⟨pg1, hd_1, po1, sa1⟩, na0_weights, na1_weights, na1_step, na1_limit⟩
  have GEE : GE K mg ae := ⟨PySem.W.mg_of X G yE, fun H => .inr ⟨_, _, _, lE, rfl, rfl, sz_of (by show 3 ≤ 100000; decide), .cons ⟨_, rfl⟩ (.cons ⟨_, rfl⟩ (.cons ⟨_, rfl⟩ (.nil)))⟩⟩
  have TF : K16L.GF K mg tf := ⟨PySem.W.mg_of X G yF, fun H => .inr ⟨_, _, _, lF, rfl, rfl, sz_of (by show 3 ≤ 100000; decide), .cons ⟨_, rfl⟩ (.cons ⟨_, rfl⟩ (.cons ⟨_, rfl⟩ (.nil)))⟩⟩
  have TBB : GB K mg tb f24 f25 f26 f27 := ⟨PySem.W.mg_of X G yB, fun H => .inr ⟨_, _, _, lB, rfl, rfl, sz_of (by show 4 ≤ 100000; decide), .cons rfl (.cons rfl (.cons rfl (.cons rfl (.nil))))⟩⟩
  have T5 : GC mg g1 g2 g3 g4 g5 := ⟨PySem.W.mg_of X G yg_STEP, PySem.W.mg_of X G yg_LIMIT, PySem.W.mg_of X G yg_LENGTH_WIDTH, PySem.W.mg_of X G yg_LONGEST_WORD, PySem.W.mg_of X G yg_FORM_WIDTH⟩
  have F0 := fun_mk (st := s_field_bits) l0 c0 k0
  have C_field_bits := cal_of (P := l.prog) (w := w) (base := base) F0 (PySem.W.mg_of X G a0) (F0.binds (ps := ["number", "width"]) fun _ _ _ _ _ _ us hl => match us, hl with | [_, _], _ => rfl) (ok_field_bits (k := 0) F0 B)
  have F1 := fun_mk (st := s_low_in) l1 c1 k1
  have C_low_in := cal_of (P := l.prog) (w := w) (base := base) F1 (PySem.W.mg_of X G a1) (F1.binds (ps := ["weights", "symbol"]) fun _ _ _ _ _ _ us hl => match us, hl with | [_, _], _ => rfl) (ok_low_in (k := 0) F1 B)
  have N_Counts : CalM l.prog w K mg base "Counts" (Cl 0) 1 ["self", "weights"] (spInitC K Cl) := ⟨_, _, PySem.W.mg_of X G aC0, ⟨mk0, b0_init, i0_init, kc0⟩, B0_init, ok_Counts_init (k := 0) F0_init B T⟩
  have N_Learner : CalM l.prog w K mg base "Learner" (Cl 1) 1 ["self", "size", "step", "limit"] (spInitL Cl) := ⟨_, _, PySem.W.mg_of X G aC1, ⟨mk1, b1_init, i1_init, kc1⟩, B1_init, ok_Learner_init (k := 0) F1_init B T⟩
  have K0_total : FnOk l.prog w K mg base CX0 1 fm0_total _ ["self"] (spTotal Cl 0) := ok_Counts_total (k := 0) F0_total B T
  have C_Counts_total : MCal l.prog w K mg base Cl (fun i => i = 0) "total" 1 ["self"] (spTotal Cl) := ⟨fun i hi => by subst hi; exact ⟨T.c0, _, _, ⟨b0_total, i0_total, k0_total⟩, B0_total, K0_total⟩⟩
  have K1_total : FnOk l.prog w K mg base CX0 1 fm1_total _ ["self"] (spTotal Cl 1) := ok_Learner_total (k := 0) F1_total B T
  have C_Learner_total : MCal l.prog w K mg base Cl (fun i => i = 1) "total" 1 ["self"] (spTotal Cl) := ⟨fun i hi => by subst hi; exact ⟨T.c1, _, _, ⟨b1_total, i1_total, k1_total⟩, B1_total, K1_total⟩⟩
  have D_total : MCal l.prog w K mg base Cl Any "total" 2 ["self"] (spTotal Cl) := ⟨fun i hi => match i, hi with | 0, _ => ⟨T.c0, _, _, ⟨b0_total, i0_total, k0_total⟩, B0_total, K0_total.mono (by decide)⟩ | 1, _ => ⟨T.c1, _, _, ⟨b1_total, i1_total, k1_total⟩, B1_total, K1_total.mono (by decide)⟩ | j + 2, _ => by rw [e2]; exact ⟨T.c1, _, _, ⟨b1_total, i1_total, k1_total⟩, B1_total, (K1_total.mono (by decide)).imp fun vs H Q E h => (no_total h).elim⟩⟩
  have K0_low : FnOk l.prog w K mg base CX0 2 fm0_low _ ["self", "symbol"] (spLow Cl 0) := ok_Counts_low (k := 0) F0_low B T C_low_in
  have C_Counts_low : MCal l.prog w K mg base Cl (fun i => i = 0) "low" 2 ["self", "symbol"] (spLow Cl) := ⟨fun i hi => by subst hi; exact ⟨T.c0, _, _, ⟨b0_low, i0_low, k0_low⟩, B0_low, K0_low⟩⟩
  have K1_low : FnOk l.prog w K mg base CX0 2 fm1_low _ ["self", "symbol"] (spLow Cl 1) := ok_Learner_low (k := 0) F1_low B T C_low_in
  have C_Learner_low : MCal l.prog w K mg base Cl (fun i => i = 1) "low" 2 ["self", "symbol"] (spLow Cl) := ⟨fun i hi => by subst hi; exact ⟨T.c1, _, _, ⟨b1_low, i1_low, k1_low⟩, B1_low, K1_low⟩⟩
  have D_low : MCal l.prog w K mg base Cl Any "low" 3 ["self", "symbol"] (spLow Cl) := ⟨fun i hi => match i, hi with | 0, _ => ⟨T.c0, _, _, ⟨b0_low, i0_low, k0_low⟩, B0_low, K0_low.mono (by decide)⟩ | 1, _ => ⟨T.c1, _, _, ⟨b1_low, i1_low, k1_low⟩, B1_low, K1_low.mono (by decide)⟩ | j + 2, _ => by rw [e2]; exact ⟨T.c1, _, _, ⟨b1_low, i1_low, k1_low⟩, B1_low, (K1_low.mono (by decide)).imp fun vs H Q E h => (no_low h).elim⟩⟩
  have K0_weight : FnOk l.prog w K mg base CX0 1 fm0_weight _ ["self", "symbol"] (spWeight Cl 0) := ok_Counts_weight (k := 0) F0_weight B T
  have C_Counts_weight : MCal l.prog w K mg base Cl (fun i => i = 0) "weight" 1 ["self", "symbol"] (spWeight Cl) := ⟨fun i hi => by subst hi; exact ⟨T.c0, _, _, ⟨b0_weight, i0_weight, k0_weight⟩, B0_weight, K0_weight⟩⟩
  have K1_weight : FnOk l.prog w K mg base CX0 1 fm1_weight _ ["self", "symbol"] (spWeight Cl 1) := ok_Learner_weight (k := 0) F1_weight B T
  have C_Learner_weight : MCal l.prog w K mg base Cl (fun i => i = 1) "weight" 1 ["self", "symbol"] (spWeight Cl) := ⟨fun i hi => by subst hi; exact ⟨T.c1, _, _, ⟨b1_weight, i1_weight, k1_weight⟩, B1_weight, K1_weight⟩⟩
  have D_weight : MCal l.prog w K mg base Cl Any "weight" 2 ["self", "symbol"] (spWeight Cl) := ⟨fun i hi => match i, hi with | 0, _ => ⟨T.c0, _, _, ⟨b0_weight, i0_weight, k0_weight⟩, B0_weight, K0_weight.mono (by decide)⟩ | 1, _ => ⟨T.c1, _, _, ⟨b1_weight, i1_weight, k1_weight⟩, B1_weight, K1_weight.mono (by decide)⟩ | j + 2, _ => by rw [e2]; exact ⟨T.c1, _, _, ⟨b1_weight, i1_weight, k1_weight⟩, B1_weight, (K1_weight.mono (by decide)).imp fun vs H Q E h => (no_weight h).elim⟩⟩
  have K0_learn : FnOk l.prog w K mg base CX0 1 fm0_learn _ ["self", "symbol"] (spLearn Cl 0) := ok_Counts_learn (k := 0) F0_learn B
  have C_Counts_learn : MCal l.prog w K mg base Cl (fun i => i = 0) "learn" 1 ["self", "symbol"] (spLearn Cl) := ⟨fun i hi => by subst hi; exact ⟨T.c0, _, _, ⟨b0_learn, i0_learn, k0_learn⟩, B0_learn, K0_learn⟩⟩
  have K1_learn : FnOk l.prog w K mg base CX0 2 fm1_learn _ ["self", "symbol"] (spLearn Cl 1) := ok_Learner_learn (k := 0) F1_learn B T C_Learner_total
  have C_Learner_learn : MCal l.prog w K mg base Cl (fun i => i = 1) "learn" 2 ["self", "symbol"] (spLearn Cl) := ⟨fun i hi => by subst hi; exact ⟨T.c1, _, _, ⟨b1_learn, i1_learn, k1_learn⟩, B1_learn, K1_learn⟩⟩
  have D_learn : MCal l.prog w K mg base Cl Any "learn" 3 ["self", "symbol"] (spLearn Cl) := ⟨fun i hi => match i, hi with | 0, _ => ⟨T.c0, _, _, ⟨b0_learn, i0_learn, k0_learn⟩, B0_learn, K0_learn.mono (by decide)⟩ | 1, _ => ⟨T.c1, _, _, ⟨b1_learn, i1_learn, k1_learn⟩, B1_learn, K1_learn.mono (by decide)⟩ | j + 2, _ => by rw [e2]; exact ⟨T.c1, _, _, ⟨b1_learn, i1_learn, k1_learn⟩, B1_learn, (K1_learn.mono (by decide)).imp fun vs H Q E h => (no_learn h).elim⟩⟩
  have K0_fresh : FnOk l.prog w K mg base CX0 3 fm0_fresh _ ["self"] (spFresh Cl 0) := ok_Counts_fresh (k := 0) F0_fresh B T N_Counts
  have C_Counts_fresh : MCal l.prog w K mg base Cl (fun i => i = 0) "fresh" 3 ["self"] (spFresh Cl) := ⟨fun i hi => by subst hi; exact ⟨T.c0, _, _, ⟨b0_fresh, i0_fresh, k0_fresh⟩, B0_fresh, K0_fresh⟩⟩
  have K1_fresh : FnOk l.prog w K mg base CX0 3 fm1_fresh _ ["self"] (spFresh Cl 1) := ok_Learner_fresh (k := 0) F1_fresh B T N_Learner
  have C_Learner_fresh : MCal l.prog w K mg base Cl (fun i => i = 1) "fresh" 3 ["self"] (spFresh Cl) := ⟨fun i hi => by subst hi; exact ⟨T.c1, _, _, ⟨b1_fresh, i1_fresh, k1_fresh⟩, B1_fresh, K1_fresh⟩⟩
  have D_fresh : MCal l.prog w K mg base Cl Any "fresh" 5 ["self"] (spFresh Cl) := ⟨fun i hi => match i, hi with | 0, _ => ⟨T.c0, _, _, ⟨b0_fresh, i0_fresh, k0_fresh⟩, B0_fresh, K0_fresh.mono (by decide)⟩ | 1, _ => ⟨T.c1, _, _, ⟨b1_fresh, i1_fresh, k1_fresh⟩, B1_fresh, K1_fresh.mono (by decide)⟩ | j + 2, _ => by rw [e2]; exact ⟨T.c1, _, _, ⟨b1_fresh, i1_fresh, k1_fresh⟩, B1_fresh, (K1_fresh.mono (by decide)).imp fun vs H Q E h => (no_fresh h).elim⟩⟩
  have F2 := fun_mk (st := s_law_cell) l2 c2 k2
  have C_law_cell := cal_of (P := l.prog) (w := w) (base := base) F2 (PySem.W.mg_of X G a2) (F2.binds (ps := ["script", "k"]) fun _ _ _ _ _ _ us hl => match us, hl with | [_, _], _ => rfl) (ok_cell (k := 0) F2 B)
  have F3 := fun_mk (st := s_gamma_bits) l3 c3 k3
  have C_gamma_bits := cal_of (P := l.prog) (w := w) (base := base) F3 (PySem.W.mg_of X G a3) (F3.binds (ps := ["n"]) fun _ _ _ _ _ _ us hl => match us, hl with | [_], _ => rfl) (ok_gamma_bits (k := 0) F3 B C_field_bits)
  have F4 := fun_mk (st := s_narrowed) l4 c4 k4
  have C_narrowed := cal_of (P := l.prog) (w := w) (base := base) F4 (PySem.W.mg_of X G a4) (F4.binds (ps := ["span", "model", "symbol"]) fun _ _ _ _ _ _ us hl => match us, hl with | [_, _, _], _ => rfl) (ok_narrowed (k := 0) F4 B D_total D_low D_weight)
  have F5 := fun_mk (st := s_interval) l5 c5 k5
  have C_interval := cal_of (P := l.prog) (w := w) (base := base) F5 (PySem.W.mg_of X G a5) (F5.binds (ps := ["model", "message"]) fun _ _ _ _ _ _ us hl => match us, hl with | [_, _], _ => rfl) (ok_interval (k := 0) F5 B GEE C_narrowed D_fresh D_learn)
  have F6 := fun_mk (st := s_least_exponent) l6 c6 k6
  have C_least_exponent := cal_of (P := l.prog) (w := w) (base := base) F6 (PySem.W.mg_of X G a6) (F6.binds (ps := ["width", "whole"]) fun _ _ _ _ _ _ us hl => match us, hl with | [_, _], _ => rfl) (ok_least_exponent (k := 0) F6 B)
  have F7 := fun_mk (st := s_holds) l7 c7 k7
  have C_holds := cal_of (P := l.prog) (w := w) (base := base) F7 (PySem.W.mg_of X G a7) (F7.binds (ps := ["span", "number", "count"]) fun _ _ _ _ _ _ us hl => match us, hl with | [_, _, _], _ => rfl) (ok_holds (k := 0) F7 B)
  have F8 := fun_mk (st := s_first_number) l8 c8 k8
  have C_first_number := cal_of (P := l.prog) (w := w) (base := base) F8 (PySem.W.mg_of X G a8) (F8.binds (ps := ["span", "count"]) fun _ _ _ _ _ _ us hl => match us, hl with | [_, _], _ => rfl) (ok_first_number (k := 0) F8 B)
  have F9 := fun_mk (st := s_encode_message) l9 c9 k9
  have C_encode_message := cal_of (P := l.prog) (w := w) (base := base) F9 (PySem.W.mg_of X G a9) (F9.binds (ps := ["model", "message"]) fun _ _ _ _ _ _ us hl => match us, hl with | [_, _], _ => rfl) (ok_encode (k := 0) F9 B C_interval C_least_exponent C_holds C_first_number C_field_bits)
  have F10 : FunT K "ranks" "ranks" s_ranks f10 _ g10 := ⟨⟨oc10, od10, kV10, dc10, pm10, an10, ct10, sl10, rfl, l10, c10⟩, k10⟩
  have C_ranks := cal_of (P := l.prog) (w := w) (base := base) F10.fn (PySem.W.mg_of X G a10) (F10.fn.binds (ps := ["weights"]) fun _ _ _ _ _ _ us hl => match us, hl with | [_], _ => rfl) (K16L.ok_ranks (k := 0) F10 TB10 B)
  have F11 := fun_mk (st := s_rests) l11 c11 k11
  have C_rests := cal_of (P := l.prog) (w := w) (base := base) F11 (PySem.W.mg_of X G a11) (F11.binds (ps := ["weights"]) fun _ _ _ _ _ _ us hl => match us, hl with | [_], _ => rfl) (K16L.ok_rests (k := 0) F11 B)
  have F12 := fun_mk (st := s_word_counts) l12 c12 k12
  have C_word_counts := cal_of (P := l.prog) (w := w) (base := base) F12 (PySem.W.mg_of X G a12) (F12.binds (ps := ["limit", "depth", "free", "left"]) fun _ _ _ _ _ _ us hl => match us, hl with | [_, _, _, _], _ => rfl) (K16L.ok_word_counts (k := 0) F12 B)
  have F13 := fun_mk (st := s_stage_choices) l13 c13 k13
  have C_stage_choices := cal_of (P := l.prog) (w := w) (base := base) F13 (PySem.W.mg_of X G a13) (F13.binds (ps := ["sums", "limit", "stage"]) fun _ _ _ _ _ _ us hl => match us, hl with | [_, _, _], _ => rfl) (K16L.ok_stage_choices (k := 0) F13 B C_word_counts)
  have F14 := fun_mk (st := s_reached_stages) l14 c14 k14
  have C_reached_stages := cal_of (P := l.prog) (w := w) (base := base) F14 (PySem.W.mg_of X G a14) (F14.binds (ps := ["weights", "limit"]) fun _ _ _ _ _ _ us hl => match us, hl with | [_, _], _ => rfl) (K16L.ok_reached_stages (k := 0) TF F14 B C_rests C_stage_choices)
  have F15 := fun_mk (st := s_least_sum) l15 c15 k15
  have C_least_sum := cal_of (P := l.prog) (w := w) (base := base) F15 (PySem.W.mg_of X G a15) (F15.binds (ps := ["choice", "known"]) fun _ _ _ _ _ _ us hl => match us, hl with | [_, _], _ => rfl) (K16L.ok_least_sum (k := 0) F15 B)
  have F16 := fun_mk (st := s_stage_values) l16 c16 k16
  have C_stage_values := cal_of (P := l.prog) (w := w) (base := base) F16 (PySem.W.mg_of X G a16) (F16.binds (ps := ["stages"]) fun _ _ _ _ _ _ us hl => match us, hl with | [_], _ => rfl) (K16L.ok_stage_values (k := 0) F16 B C_least_sum)
  have F17 := fun_mk (st := s_least_lengths) l17 c17 k17
  have C_least_lengths := cal_of (P := l.prog) (w := w) (base := base) F17 (PySem.W.mg_of X G a17) (F17.binds (ps := ["weights", "limit"]) fun _ _ _ _ _ _ us hl => match us, hl with | [_, _], _ => rfl) (K16L.ok_least_lengths (k := 0) TF F17 B C_reached_stages C_stage_values C_ranks C_least_sum)
  have C_field_bitsP := cal_of (P := l.prog) (w := w) (base := base) F0 (PySem.W.mg_of X G a0) (F0.binds (ps := ["number", "width"]) fun _ _ _ _ _ _ us hl => match us, hl with | [_, _], _ => rfl) (K16P.ok_field_bits (k := 0) F0 B)
  have F18 : FunT K "words" "words" s_words f18 _ g18 := ⟨⟨oc18, od18, kV18, dc18, pm18, an18, ct18, sl18, rfl, l18, c18⟩, k18⟩
  have C_words := cal_of (P := l.prog) (w := w) (base := base) F18.fn (PySem.W.mg_of X G a18) (F18.fn.binds (ps := ["lengths"]) fun _ _ _ _ _ _ us hl => match us, hl with | [_], _ => rfl) (K16P.ok_words (k := 0) F18 TB18 B C_field_bitsP)
  have F19 := fun_mk (st := s_write_symbols) l19 c19 k19
  have C_write_symbols := cal_of (P := l.prog) (w := w) (base := base) F19 (PySem.W.mg_of X G a19) (F19.binds (ps := ["lengths", "message"]) fun _ _ _ _ _ _ us hl => match us, hl with | [_, _], _ => rfl) (K16P.ok_write_symbols (k := 0) F19 B C_words)
  have F20 := fun_mk (st := s_symbol_width) l20 c20 k20
  have C_symbol_width := cal_of (P := l.prog) (w := w) (base := base) F20 (PySem.W.mg_of X G a20) (F20.binds (ps := ["size"]) fun _ _ _ _ _ _ us hl => match us, hl with | [_], _ => rfl) (ok_symbol_width (k := 0) F20 B)
  have F21 := fun_mk (st := s_block_counts) l21 c21 k21
  have C_block_counts := cal_of (P := l.prog) (w := w) (base := base) F21 (PySem.W.mg_of X G a21) (F21.binds (ps := ["size", "block"]) fun _ _ _ _ _ _ us hl => match us, hl with | [_, _], _ => rfl) (ok_block_counts (k := 0) F21 B)
  have F22 := fun_mk (st := s_block_lengths) l22 c22 k22
  have C_block_lengths := cal_of (P := l.prog) (w := w) (base := base) F22 (PySem.W.mg_of X G a22) (F22.binds (ps := ["counts"]) fun _ _ _ _ _ _ us hl => match us, hl with | [_], _ => rfl) (ok_block_lengths (k := 0) F22 B T5 C_least_lengths)
  have F23 := fun_mk (st := s_model_bits) l23 c23 k23
  have C_model_bits := cal_of (P := l.prog) (w := w) (base := base) F23 (PySem.W.mg_of X G a23) (F23.binds (ps := ["model", "block"]) fun _ _ _ _ _ _ us hl => match us, hl with | [_, _], _ => rfl) (ok_model_bits (k := 0) F23 B C_encode_message C_gamma_bits)
  have F24 := fun_mk (st := s_field_body) l24 c24 k24
  have C_field_body := cal_of (P := l.prog) (w := w) (base := base) F24 (PySem.W.mg_of X G a24) (F24.binds (ps := ["size", "block"]) fun _ _ _ _ _ _ us hl => match us, hl with | [_, _], _ => rfl) (ok_field_body (k := 0) F24 B C_symbol_width C_field_bits)
  have F25 := fun_mk (st := s_prefix_body) l25 c25 k25
  have C_prefix_body := cal_of (P := l.prog) (w := w) (base := base) F25 (PySem.W.mg_of X G a25) (F25.binds (ps := ["size", "block"]) fun _ _ _ _ _ _ us hl => match us, hl with | [_, _], _ => rfl) (ok_prefix_body (k := 0) F25 B T5 C_block_counts C_block_lengths C_field_bits C_write_symbols)
  have F26 := fun_mk (st := s_counts_body) l26 c26 k26
  have C_counts_body := cal_of (P := l.prog) (w := w) (base := base) F26 (PySem.W.mg_of X G a26) (F26.binds (ps := ["size", "block"]) fun _ _ _ _ _ _ us hl => match us, hl with | [_, _], _ => rfl) (ok_counts_body (k := 0) F26 B N_Counts C_block_counts C_gamma_bits C_model_bits)
  have F27 := fun_mk (st := s_learner_body) l27 c27 k27
  have C_learner_body := cal_of (P := l.prog) (w := w) (base := base) F27 (PySem.W.mg_of X G a27) (F27.binds (ps := ["size", "block"]) fun _ _ _ _ _ _ us hl => match us, hl with | [_, _], _ => rfl) (ok_learner_body (k := 0) F27 B T5 N_Learner C_model_bits)
  have HB : ∀ f sp, SB K P0 P1 f24 f25 f26 f27 f sp → HeldX CX0 l.prog w K mg base 10 f sp := fun f sp ⟨form, h4, hf, hs⟩ => by
    subst hs
    subst hf
    exact match form, h4 with | 0, _ => held_body (ok_field_body (k := 0) F24 B C_symbol_width C_field_bits) F24.kp (F24.binds (ps := ["size", "block"]) fun _ _ _ _ _ _ us hl => (match us, hl with | [_, _], _ => rfl)) rfl (fun _ _ => trivial) (by decide) | 1, _ => held_body (ok_prefix_body (k := 0) F25 B T5 C_block_counts C_block_lengths C_field_bits C_write_symbols) F25.kp (F25.binds (ps := ["size", "block"]) fun _ _ _ _ _ _ us hl => (match us, hl with | [_, _], _ => rfl)) rfl (fun _ h => h) (by decide) | 2, _ => held_body (ok_counts_body (k := 0) F26 B N_Counts C_block_counts C_gamma_bits C_model_bits) F26.kp (F26.binds (ps := ["size", "block"]) fun _ _ _ _ _ _ us hl => (match us, hl with | [_, _], _ => rfl)) rfl (fun _ _ => trivial) (by decide) | 3, _ => held_body (ok_learner_body (k := 0) F27 B T5 N_Learner C_model_bits) F27.kp (F27.binds (ps := ["size", "block"]) fun _ _ _ _ _ _ us hl => (match us, hl with | [_, _], _ => rfl)) rfl (fun _ _ => trivial) (by decide)
  have F28 := fun_mk (st := s_body) l28 c28 k28
  have C_body := cal_of (P := l.prog) (w := w) (base := base) F28 (PySem.W.mg_of X G a28) (F28.binds (ps := ["size", "block", "form"]) fun _ _ _ _ _ _ us hl => match us, hl with | [_, _, _], _ => rfl) (ok_body (k := 0) F28 B TBB HB)
  have F29 := fun_mk (st := s_write_block) l29 c29 k29
  have C_write_block := cal_of (P := l.prog) (w := w) (base := base) F29 (PySem.W.mg_of X G a29) (F29.binds (ps := ["size", "block"]) fun _ _ _ _ _ _ us hl => match us, hl with | [_, _], _ => rfl) (ok_write_block (k := 0) F29 B T5 TBB C_gamma_bits C_field_bits C_body)
  have F30 := fun_mk (st := s_law_block) l30 c30 k30
  have C_law_block := cal_of (P := l.prog) (w := w) (base := base) F30 (PySem.W.mg_of X G a30) (F30.binds (ps := ["script", "first", "most", "size"]) fun _ _ _ _ _ _ us hl => match us, hl with | [_, _, _, _], _ => rfl) (ok_law_block (k := 0) F30 B C_law_cell)
  have F31 := fun_mk (st := s_law_gamma) l31 c31 k31
  have C_law_gamma := cal_of (P := l.prog) (w := w) (base := base) F31 (PySem.W.mg_of X G a31) (F31.binds (ps := ["n"]) fun _ _ _ _ _ _ us hl => match us, hl with | [_], _ => rfl) (ok_law_gamma (k := 0) F31 B)
  have F32 := fun_mk (st := s_law_width) l32 c32 k32
  have C_law_width := cal_of (P := l.prog) (w := w) (base := base) F32 (PySem.W.mg_of X G a32) (F32.binds (ps := ["size"]) fun _ _ _ _ _ _ us hl => match us, hl with | [_], _ => rfl) (ok_law_width (k := 0) F32 B)
  have F33 := fun_mk (st := s_law_lengths) l33 c33 k33
  have C_law_lengths := cal_of (P := l.prog) (w := w) (base := base) F33 (PySem.W.mg_of X G a33) (F33.binds (ps := ["counts"]) fun _ _ _ _ _ _ us hl => match us, hl with | [_], _ => rfl) (ok_law_lengths (k := 0) F33 B C_least_lengths)
  have F34 := fun_mk (st := s_law_body) l34 c34 k34
  have C_law_body := cal_of (P := l.prog) (w := w) (base := base) F34 (PySem.W.mg_of X G a34) (F34.binds (ps := ["size", "block", "form"]) fun _ _ _ _ _ _ us hl => match us, hl with | [_, _, _], _ => rfl) (ok_law_body (k := 0) F34 B N_Counts N_Learner C_law_width C_law_lengths C_write_symbols C_encode_message C_law_gamma)
  have F35 := fun_mk (st := s_law) l35 c35 k35
  exact ok_law (k := 0) F35 B C_law_cell C_law_block C_write_block C_block_lengths C_law_lengths C_law_body C_body C_law_gamma
end K16
open PySem PySem.W PyProof.Rows
set_option maxHeartbeats 0 in
theorem PySem.Challenge.cw_kraftroom_k16_forms_of_a_block_holds : PySem.Challenge.rw_kraftroom_k16_forms_of_a_block.Holds := by
  w_on; o_law; k_head; (case hw => w_witness2)
  k_fill
  refine KC.walk_X (l := PySem.Challenge.rw_kraftroom_k16_forms_of_a_block) (n := 63) (k := 13) (x := "script") (CX := fun _ => L2.CX0) rfl (by decide) rfl ⟨rfl, by decide, by decide⟩ (fun w h Y => PySem.W.kIn_of Y) ?F (fun _ _ _ _ _ h => h)
  case F =>
    intro w mg fa h Y KX G hmg R
    refine' K16.top_of KX G R hmg ?r10 ?r18 ?a0 ?l0 ?c0 ?k0 ?a1 ?l1 ?c1 ?k1 ?a2 ?l2 ?c2 ?k2 ?a3 ?l3 ?c3 ?k3 ?a4 ?l4 ?c4 ?k4 ?a5 ?l5 ?c5 ?k5 ?a6 ?l6 ?c6 ?k6 ?a7 ?l7 ?c7 ?k7 ?a8 ?l8 ?c8 ?k8 ?a9 ?l9 ?c9 ?k9 ?a10 ?l10 ?c10 ?k10 ?v10 ?p10 ?t10 ?n10 ?a11 ?l11 ?c11 ?k11 ?a12 ?l12 ?c12 ?k12 ?a13 ?l13 ?c13 ?k13 ?a14 ?l14 ?c14 ?k14 ?a15 ?l15 ?c15 ?k15 ?a16 ?l16 ?c16 ?k16 ?a17 ?l17 ?c17 ?k17 ?a18 ?l18 ?c18 ?k18 ?v18 ?p18 ?t18 ?n18 ?a19 ?l19 ?c19 ?k19 ?a20 ?l20 ?c20 ?k20 ?a21 ?l21 ?c21 ?k21 ?a22 ?l22 ?c22 ?k22 ?a23 ?l23 ?c23 ?k23 ?a24 ?l24 ?c24 ?k24 ?a25 ?l25 ?c25 ?k25 ?a26 ?l26 ?c26 ?k26 ?a27 ?l27 ?c27 ?k27 ?a28 ?l28 ?c28 ?k28 ?a29 ?l29 ?c29 ?k29 ?a30 ?l30 ?c30 ?k30 ?a31 ?l31 ?c31 ?k31 ?a32 ?l32 ?c32 ?k32 ?a33 ?l33 ?c33 ?k33 ?a34 ?l34 ?c34 ?k34 ?a35 ?l35 ?c35 ?k35 ?z_len ?z_int ?z_min ?z_max ?z_list ?z_sorted ?z_sum ?z_range ?z_enumerate ?z_zip ?z_any ?z_isinstance ?z_bool ?z_reversed ?yg_STEP ?yg_LIMIT ?yg_LENGTH_WIDTH ?yg_LONGEST_WORD ?yg_FORM_WIDTH ?yE ?lE ?yF ?lF ?aC0 ?pg0 ?hd_0 ?po0 ?sa0 ?mk0 ?kc0 ?na0_weights ?b0_init ?i0_init ?l0_init ?c0_init ?k0_init ?b0_total ?i0_total ?l0_total ?c0_total ?k0_total ?b0_low ?i0_low ?l0_low ?c0_low ?k0_low ?b0_weight ?i0_weight ?l0_weight ?c0_weight ?k0_weight ?b0_learn ?i0_learn ?l0_learn ?c0_learn ?k0_learn ?b0_fresh ?i0_fresh ?l0_fresh ?c0_fresh ?k0_fresh ?aC1 ?pg1 ?hd_1 ?po1 ?sa1 ?mk1 ?kc1 ?na1_weights ?na1_step ?na1_limit ?b1_init ?i1_init ?l1_init ?c1_init ?k1_init ?b1_total ?i1_total ?l1_total ?c1_total ?k1_total ?b1_low ?i1_low ?l1_low ?c1_low ?k1_low ?b1_weight ?i1_weight ?l1_weight ?c1_weight ?k1_weight ?b1_learn ?i1_learn ?l1_learn ?c1_learn ?k1_learn ?b1_fresh ?i1_fresh ?l1_fresh ?c1_fresh ?k1_fresh ?yB ?lB
    (case r10 => rfl)
    (case r18 => rfl)
    (case a0 => k_is); (case l0 => k_is); (case c0 => k_is); (case k0 => k_is); (case a1 => k_is); (case l1 => k_is); (case c1 => k_is); (case k1 => k_is); (case a2 => k_is); (case l2 => k_is); (case c2 => k_is); (case k2 => k_is); (case a3 => k_is); (case l3 => k_is); (case c3 => k_is); (case k3 => k_is); (case a4 => k_is); (case l4 => k_is); (case c4 => k_is); (case k4 => k_is); (case a5 => k_is); (case l5 => k_is); (case c5 => k_is); (case k5 => k_is); (case a6 => k_is); (case l6 => k_is); (case c6 => k_is); (case k6 => k_is); (case a7 => k_is); (case l7 => k_is); (case c7 => k_is); (case k7 => k_is); (case a8 => k_is); (case l8 => k_is); (case c8 => k_is); (case k8 => k_is); (case a9 => k_is); (case l9 => k_is); (case c9 => k_is); (case k9 => k_is); (case a10 => k_is); (case l10 => k_is); (case c10 => k_is); (case k10 => k_is); (case v10 => k_is); (case p10 => rfl); (case t10 => rfl); (case n10 => rfl); (case a11 => k_is); (case l11 => k_is); (case c11 => k_is); (case k11 => k_is); (case a12 => k_is); (case l12 => k_is); (case c12 => k_is); (case k12 => k_is); (case a13 => k_is); (case l13 => k_is); (case c13 => k_is); (case k13 => k_is); (case a14 => k_is); (case l14 => k_is); (case c14 => k_is); (case k14 => k_is); (case a15 => k_is); (case l15 => k_is); (case c15 => k_is); (case k15 => k_is); (case a16 => k_is); (case l16 => k_is); (case c16 => k_is); (case k16 => k_is); (case a17 => k_is); (case l17 => k_is); (case c17 => k_is); (case k17 => k_is); (case a18 => k_is); (case l18 => k_is); (case c18 => k_is); (case k18 => k_is); (case v18 => k_is); (case p18 => rfl); (case t18 => rfl); (case n18 => rfl); (case a19 => k_is); (case l19 => k_is); (case c19 => k_is); (case k19 => k_is); (case a20 => k_is); (case l20 => k_is); (case c20 => k_is); (case k20 => k_is); (case a21 => k_is); (case l21 => k_is); (case c21 => k_is); (case k21 => k_is); (case a22 => k_is); (case l22 => k_is); (case c22 => k_is); (case k22 => k_is); (case a23 => k_is); (case l23 => k_is); (case c23 => k_is); (case k23 => k_is); (case a24 => k_is); (case l24 => k_is); (case c24 => k_is); (case k24 => k_is); (case a25 => k_is); (case l25 => k_is); (case c25 => k_is); (case k25 => k_is); (case a26 => k_is); (case l26 => k_is); (case c26 => k_is); (case k26 => k_is); (case a27 => k_is); (case l27 => k_is); (case c27 => k_is); (case k27 => k_is); (case a28 => k_is); (case l28 => k_is); (case c28 => k_is); (case k28 => k_is); (case a29 => k_is); (case l29 => k_is); (case c29 => k_is); (case k29 => k_is); (case a30 => k_is); (case l30 => k_is); (case c30 => k_is); (case k30 => k_is); (case a31 => k_is); (case l31 => k_is); (case c31 => k_is); (case k31 => k_is); (case a32 => k_is); (case l32 => k_is); (case c32 => k_is); (case k32 => k_is); (case a33 => k_is); (case l33 => k_is); (case c33 => k_is); (case k33 => k_is); (case a34 => k_is); (case l34 => k_is); (case c34 => k_is); (case k34 => k_is); (case a35 => k_is); (case l35 => k_is); (case c35 => k_is); (case k35 => k_is); (case z_len => k_is); (case z_int => k_is); (case z_min => k_is); (case z_max => k_is); (case z_list => k_is); (case z_sorted => k_is); (case z_sum => k_is); (case z_range => k_is); (case z_enumerate => k_is); (case z_zip => k_is); (case z_any => k_is); (case z_isinstance => k_is); (case z_bool => k_is); (case z_reversed => k_is); (case yg_STEP => k_is); (case yg_LIMIT => k_is); (case yg_LENGTH_WIDTH => k_is); (case yg_LONGEST_WORD => k_is); (case yg_FORM_WIDTH => k_is); (case yE => k_is); (case lE => k_is); (case yF => k_is); (case lF => k_is); (case aC0 => k_is); (case pg0 => first | k_is | rfl); (case hd_0 => first | k_is | rfl); (case po0 => first | k_is | rfl); (case sa0 => first | k_is | rfl); (case mk0 => first | k_is | rfl); (case kc0 => first | k_is | rfl); (case na0_weights => first | k_is | rfl); (case b0_init => k_is); (case i0_init => first | k_is | rfl); (case l0_init => k_is); (case c0_init => k_is); (case k0_init => first | k_is | rfl); (case b0_total => k_is); (case i0_total => first | k_is | rfl); (case l0_total => k_is); (case c0_total => k_is); (case k0_total => first | k_is | rfl); (case b0_low => k_is); (case i0_low => first | k_is | rfl); (case l0_low => k_is); (case c0_low => k_is); (case k0_low => first | k_is | rfl); (case b0_weight => k_is); (case i0_weight => first | k_is | rfl); (case l0_weight => k_is); (case c0_weight => k_is); (case k0_weight => first | k_is | rfl); (case b0_learn => k_is); (case i0_learn => first | k_is | rfl); (case l0_learn => k_is); (case c0_learn => k_is); (case k0_learn => first | k_is | rfl); (case b0_fresh => k_is); (case i0_fresh => first | k_is | rfl); (case l0_fresh => k_is); (case c0_fresh => k_is); (case k0_fresh => first | k_is | rfl); (case aC1 => k_is); (case pg1 => first | k_is | rfl); (case hd_1 => first | k_is | rfl); (case po1 => first | k_is | rfl); (case sa1 => first | k_is | rfl); (case mk1 => first | k_is | rfl); (case kc1 => first | k_is | rfl); (case na1_weights => first | k_is | rfl); (case na1_step => first | k_is | rfl); (case na1_limit => first | k_is | rfl); (case b1_init => k_is); (case i1_init => first | k_is | rfl); (case l1_init => k_is); (case c1_init => k_is); (case k1_init => first | k_is | rfl); (case b1_total => k_is); (case i1_total => first | k_is | rfl); (case l1_total => k_is); (case c1_total => k_is); (case k1_total => first | k_is | rfl); (case b1_low => k_is); (case i1_low => first | k_is | rfl); (case l1_low => k_is); (case c1_low => k_is); (case k1_low => first | k_is | rfl); (case b1_weight => k_is); (case i1_weight => first | k_is | rfl); (case l1_weight => k_is); (case c1_weight => k_is); (case k1_weight => first | k_is | rfl); (case b1_learn => k_is); (case i1_learn => first | k_is | rfl); (case l1_learn => k_is); (case c1_learn => k_is); (case k1_learn => first | k_is | rfl); (case b1_fresh => k_is); (case i1_fresh => first | k_is | rfl); (case l1_fresh => k_is); (case c1_fresh => k_is); (case k1_fresh => first | k_is | rfl); (case yB => k_is); (case lB => k_is)
