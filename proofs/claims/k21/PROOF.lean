import PyProof.Rows.All
import KE.KIsAll
import KE.KDictList
import KE.KSortTup
import KE.IntBitsLaws
import PySem.Challenge.RW_drawndown_k21_weights_looked_at_and_told
set_option compiler.extract_closed false
set_option Elab.async false
set_option linter.all false
set_option maxRecDepth 100000
set_option maxHeartbeats 1000000
set_option exponentiation.threshold 5000
theorem aDe_(_:True:=by decide):True:=trivial
def aDe:Lean.Syntax:=aDe_._auto_1
theorem aLr_(_:True:=by first | exact .inl rfl | exact .inr rfl | assumption):True:=trivial
def aLr:Lean.Syntax:=aLr_._auto_1
theorem aOr_(_:True:=by first | exact Or.inl rfl | exact Or.inr rfl):True:=trivial
def aOr:Lean.Syntax:=aOr_._auto_1
theorem aIr_(_:True:=by intro z;rfl):True:=trivial
def aIr:Lean.Syntax:=aIr_._auto_1
theorem aRf_(_:True:=by rfl):True:=trivial
def aRf:Lean.Syntax:=aRf_._auto_1
theorem aWu_(_:True:=by with_unfolding_all rfl):True:=trivial
def aWu:Lean.Syntax:=aWu_._auto_1
section
namespace Zd
def zTab:String:="none
some # $1
true
.int # $1
some .int # $1 $1

\"Prop &1prop
# Int :
List Int $1
.ok # s $2
some d $1
# Str :

zd '1 $1
zd '0 $1
.tup # $1
# \". length &3proj
false

.ok .int # $1 s $2
vr rfl $1
List D $1
.ref # $1
xs.length
.inl # $1
some e $1
autoParam # aRf $2
# \". bind &3proj # $1
eC .int '0 $1 $1
.ok .nx # $1 # $2
# @0 \"[ # \"] @0 \"? %7term__[_]_? some # $1 `=
s.heap
zc '1 $1
zd '2 $1
v.length
gm X $1
Inv X ae O H s $5
some .lst # $1 $1
.ok # s1 $2
some .loc l $1 $1
base
zc '0 $1
.inr # $1
zq # # zi # $1 $3
PE X # # $3
eC .int # $1 $1
id rfl $1
RE X E # # $4
some .loc s.length $1 $1
.none
\"( ! &2hygienicLParen # Str : \", # @1 @3 \") &3tuple
# Nat : Int :
.int i $1
\"if # \"then # \"else .no %6termIfThenElse
.ref a $1
.lst # $1
x hx # \\2
Hs P w K mg base CX0 # # # $9
some # $1 none [2
.tup xs $1
\"if # # `= \"then # \"else # %6termIfThenElse
# @0 \"[ i \"] @0 \"? %7term__[_]_? some # $1 `=
some rD v $1 $1
_k * $1
\"if # \"then # \"else # %6termIfThenElse
List Addr $1
eC .int '1 $1 $1
.ref C $1
List Str $1
.type # $1
# # <2
s.heap.objs.size
outer
qual
starEach # X.env $2
eOp dIx zd # $1 zd # $1 $3
at0 p # $2
rD v $1
L.length
\"\"lot\" %1str
# rfl # <3
D.int # $1
List Expr $1
\"if # true `= \"then # \"else # %6termIfThenElse
List V $1
some .int j $1 $1
.str # $1
.non
r.length
deal r v $2 \". \"1 %1fieldIdx &3proj
f ρ s $2
zc '2 $1
.ok .nx # $1 s $2
d3 a b c # # # # # # $9
zb # zb # zj $2 $2
List.range # $1 \". map &3proj # $1
Option Value $1
X.prog
rD b $1
# # # <3
sizeLine
X.env
.str x $1
aN zc # $1 zg $2
ze # zb # zj $2 $2
aN zc '1 $1 zg $2
Lot n v $2
# [0 `≠
# \". trans &3proj # $1
ps.length
ze # zb zd '0 $1 zj $2 $2
some .int b $1 $1
gp v $1
Sz n $1
zd '3 $1
zL # # # # * * * # \\3 # * * * # \\3 * * * # \\3 $8
.ok .tup # $1 s $2
eOp yW # # $3
s L.map rL $1 [1 `++
* # \\1
# \". natAbs &3proj
zx # zx # # $2 $2
vM rfl $1
# \". getD &3proj # '0 $2
some .int k $1 $1
Sto R D $1 ^
Option # $1
# # # rfl # <5
# List Str $1 : \". Nodup &3proj
fIf # # yY $3
p hp # \\2
T.length
v.getD # '0 $2
.ok .lst # $1 s $2
one n $1
some .int n $1 $1
decide # $1
.int # # $2
scope
.ok .bl # $1 s $2
some .int v.length $1 $1
Or.inl rfl $1
# \". map &3proj rD $1
.ok # s2 $2
.str nmR r $1 $1
iL # $1 [1
\"∀ b o @2 @0 \", # &5forall
'2000
zb # zj $2
aN zc '0 $1 zg $2
zD yG # # $3
\"Type @0 &2type
* # # <3
Or.inr rfl $1
wpAny model X.prog X.w $2 X.A # # X.xe # $6
some v $1
Hp \"Prop &1prop ^
zh # zn zQ # $1 $1 $2
absurd # # $2
.free
List Value $1
eC .str # $1 $1
.int # $1 .int # $1 [2
Value Shared \"Prop &1prop ^ ^
v.getD i '0 $2
# \". elim &3proj
ρ s # \". bind &3proj # $1 \\2
some rD # $1 $1
X.calm true `=
.ok .bl true $1 s $2
at2 L # a $3
* # rfl <3
.ref p $1
.int # t $2
some .str nmR r $1 $1 $1
some '1 $1 none [2
iL v $1
Bool
some tD # $1 $1
_i # # <2 $1
autoParam # false `= aDe $2
yx T.q # rfl $2 # hr hc # \\2 # $4
.ok # s' $2
some .int i $1 $1
H a $1 some # $1 `=
yh '1 $1
# # # # <4
b hb # \\2
s.length
zb # zb zd # $1 zj $2 $2
# rfl <2
.lst vs $1
.lst xs $1
o # # <3
r_k hr aN zc '0 $1 # $2 $2
yb X N' scope ex s H $6
.nil
\"\"_law_number\" %1str
zb zd # $1 zj $2
L.getD # [0 $2
ze # zb zd # $1 zj $2 $2
Array Value $1
zh # zh # # $2 $2
wpAny model prog # $2 # # # # # $6
left v # # $3
d3 a # # # # # # # # $9
d3 a b # # # # # # # $9
uD zb # zb # zj $2 $2 $1
h.get? # $1 some o $1 `=
\"\"__debug__\" %1str Str :
Inv X ae O # # $5
.bl false $1
decide # # `≠ $1
r.getD # '0 $2
_e.mp # $1 \". \"1 %1fieldIdx &3proj
zT zd '0 $1 $1
aO # zg $2
aQ # zg $2
some d $1 [1
H b $1 some # $1 `=
OpF X E r # $4
Mof # '1 # $3
ze # zb zd '0 $1 zb zd '1 $1 zj $2 $2 $2
\"\"tuple\" %1str
y hy # \\2
others v $1
\"\"thing\" %1str [1
.inl rfl $1
* # <2
dIx # .int # $1 # $3
zi st $1
Mof # '2 # $3
.int '0 $1
_r e $1
ys.length
# \". push &3proj # $1
\"\"rule\" %1str
r hr # \\2
D.flat.flats # $1 true `=
.type \"\"list\" %1str $1
okR.bind # $1 \". imp &3proj # $1
Option Int $1
List Addr Obj `× $1
eOp dIx # # $3
autoParam # true `= aRf $2
.scr iL ns $1 $1
lt # # $2 true `=
at2 L k a $3
yN v deal r v $2 $2
.Call .Name # # $2 # [0 pos $4
s.heap.get? # $1 some o $1 `=
lp v $1
x.natAbs '2 # `^ `<
V9 # # s.length # # # # # # $9
\"\"rule\" %1str \"\"lot\" %1str [2
some .int gp v $1 $1 $1
some .cell $1
stp r v $2
ze # zb zd '0 $1 zb # zj $2 $2 $2
# '1000 `≤
h'.get? # $1 some o $1 `=
z03 # zn # $1 yD $3
vs.length
stp.rep
h.toLot
at2 # # # $3 \". natAbs &3proj
.type \"\"tuple\" %1str $1
List Str # `× $1
zx # zx # zx # zx # # $2 $2 $2 $2
X.mg # $1 none `=
# [0 <2
some .int far $1 $1
some # $1 none none [3
some x $1
.loc l $1
zu # zu # rfl $2 $2
CX1 P w $2
L.getD k [0 $2
s.heap.objs.size '1 `+
OpR X compareOp # $1 # $3
\"( ! &2hygienicLParen false \", eval e X.env $2 @1 @3 \") &3tuple
Value
pure # $1
body
k.toNat
\"\"_law_other\" %1str
\"\"_law_lot_here\" %1str
# Nat :
\"( ! &2hygienicLParen false \", eval # X.env $2 @1 @3 \") &3tuple
.ok .bl false $1 s $2
some .lst qs.map pD $1 $1 $1
z1V eC .int '1 $1 $1 $1
.frz o # $2
kev # lt # $3
autoParam backTo pos starEach # X.env $2 $2 \". any &3proj # $1 false `= aRf $2
f ρ s $2 \". bind &3proj d s1 # \\2 $1
L.getD a [0 $2
Rep mg H Y s $4
pre # `++ \". map &3proj rD $1
List # $1
\"\"list\" %1str
# \". objs.size &3proj
\"\"line\" %1str
\"\"_law_one\" %1str
d ρ s # \". bind &3proj ρ' s' # \\2 $1 \\3
.inr # # <2 $1
tOf eOp dNe zd # $1 # $3 $1
z3O hu $1
.ref e $1
ze yH zb zd '0 $1 zj $2 $2
jw zb zd # $1 zj $2 $1
Sto R # $1 ^
.ex c s $2
ended v $1 false `=
\"\"int\" %1str
R.ok # # $2
\"\"table\" %1str
\"\"_law_place\" %1str
some .loc # $1 $1
eOp # zd # $1 # $3
h.get? # $1 some # $1 `=
Shared \"Prop &1prop ^
.bl true $1
List α $1
decide # # `< $1
.ref l $1
VK \"Prop &1prop ^
ze zU zb zt # # yh # $1 zX # $5 zj $2 $2
# Bool ^
dot # v $2
det '4 # $2
okR mg # # # # # # $7
SqT # H # # $4
ls.map rD $1 # [2
.cons # # $2
.fields # $1
_J.mp # $1
I.hok
vs.toArray
ns.length
ρ s # \\2
i hi # \\2
\"\"_law_at\" %1str
h.ne
r_k hr aN zc # $1 # $2 $2
at2 L # # $3
ze # zb # zb zd # $1 zj $2 $2 $2
faC # faC # # $2 $2
Tab n # $2
h.here r # $2
List Option Nat $1 $1
# # # # os <5
.int b $1
.lst iL # $1 $1
eSl # yt # $1 zC $3
yc z55 hu $1 # # $3
some .int # Nat : $1 $1
LotB n m v $3
# \". get? &3proj # $1 some # $1 `=
Gl X x $2
H b $1 none `=
z1T T # # $3
tOf eOp dEq # # $3 $1
X.base
# \". toNat &3proj
\"\"_law_pot_here\" %1str
absurd rfl # $2
List List Int $1 $1
# # rfl # <4
.ok .non s $2
aK zp zg $2
.ref f $1
z1N tOf # $1 $1
zK r ls $2 \". map &3proj tD $1
some # $1 some # $1 none [3
mg # $1 some # $1 `=
i v.length `<
RE X E e # $4
at2 L # a $3 \". natAbs &3proj
\"\"range\" %1str
af.toArray
'1000
X.mg
* * * # \\3
.Call # # # # $4
'1000000000000000000000000000000
eOp dIx zd # $1 # $3
zn zQ # $1 $1
Array Nat $1
.ok .bl decide # $1 $1 s $2
.Name x # $2
Option D $1
some # $1 some # $1 # none [4
.Name # p2 $2
wpAny # # # # # s $6
xp v.length i $2
Den mg H Y d v $5
v.getD b '0 $2
zb # zb # zb # zb # # $2 $2 $2 $2
upd H p # $3
v.getD '0 '0 $2
jx r v $2
# \". filter &3proj # $1
X.env.kindOf # $1
s.toks
\"\"_law_size\" %1str
\"\"_law_rule\" %1str
h.nn
s.heap.get? # $1 some # $1 `=
.ref s.heap.objs.size $1
\"λ k @1 \": Nat &2typeSpec @1 \"=> D.int # $1 &4basicFun &2fun
# \". map &3proj tD $1
X.env.scope.names.lookup # $1 some .local $1 `=
yj mg # # # # $5
RE X E # fa $4
# \". map &3proj rL $1
.int a $1
H' # $1 none `=
fb ρ s1 $2
.ListComp az # scope pos $4
z2V v $1
xI # zp $2
Run r # ls $3
yx T.q # rfl $2 # hr * # \\2 # $4
V9 t n s.length some .int a $1 $1 x4 x5 # x7 x8 $9
\"\"turn\" %1str
\"\"str\" %1str
o.cls
_o.mp # $1
\"\"_law_found\" %1str
\"\"_law_line\" %1str
wpAny model # # $2 # # # # # $6
List.toArray List.range # $1 $1
h'.get? # $1 some # $1 `=
Hs # # # # base # # # # $9
W.nsIn # mainGlobals # $3
List # # `× $1
starEach # env $2
aK zp # $2
ps.getD i # $2
eOp dIx zd # $1 zd '0 $1 $3
X.N @0 \"[ i \"] @0 \"? %7term__[_]_? some # $1 `=
.ok .loc s.length $1 # $2
eOp yW zd # $1 eC .int '1 $1 $1 $3
eSl # zC yt # $1 $3
OpR X binaryOp # $1 # $3
eval o X.env $2
z4J # yh # $1 # $3
.ok # s L.map rL $1 [1 `++ $2
tg iter aC # <4
fa ρ # $2
H p $1 none `=
.Name y py $2
rD v $1 [1
\"\"enumerate\" %1str
\"\"isinstance\" %1str
b o e # \\3
s'.heap
O H Q # \\3
D.tup # $1
lexN # # $2
back # $1
X.env.cells.lookup # $1 some # $1 `=
.Constant .str # $1 # # $3
List Keyword $1
tOf eOp # # # $3 $1
ac3 # ac3 # # $2 $2
# # rfl # # <5
op3 # rfl # $3
# e <2
_i rfl $1
I.hok # * # $3
.dK ah $1
eOp dIx zd # $1 eC .int '0 $1 $1 $3
.ok tD # $1 s $2
Tab n T $2
.ok .nx # $1 s1 $2
_am * $1
_x * rfl $2
mvd r # $2
upd H a # $3
\"\"NoLot\" %1str
\"\"NoRule\" %1str
askQ
items
names
\"\"by\" %1str
getD_mem # $1
eval # X.env $2
T.q # rfl $2
B.eraseIdx k $1
# \". trans &3proj # \". trans &3proj # $1 $1
I.ok.hd hc $1
.BoolOp # # pos $3
okR.here # r # $3
some rL # $1 $1
maxL others v $1 $1
some .int thin $1 $1
xV # T.f13 # $3
X.fn # $1 true `=
nz # $1 \". length &3proj
some d $1 some e $1 [2
tOf eOp dNe # # $3 $1
K.In h $1
# \". all &3proj x # \\1 $1
yj mg H Y xs vs $5
z02 qG # $1 $1
ze yH zb zd # $1 zj $2 $2
xI zc '2 $1 # $2
mg # $1 none `=
some # $1 some # $1 some # $1 none [4
eOp yS zd # $1 # $3
_p hz $1
V9 t n s.length some .int a $1 $1 x4 x5 # # # $9
z1S mg # # ρ # $5
kf n zK r ls $2 $2
z1U k # $2
dot r # $2
x H1 # \\2
.Tuple # # # $3
x y H Q # \\4
i.natAbs
items.size
\"\"_law_thing\" %1str
\"∀ d e @2 \": D &2typeSpec @1 \", # &5forall
'1999
List.replicate # # $2 \". flatten &3proj
backTo # starEach # X.env $2 $2
ns.map V.int $1
zu # zu # # $2 $2
upd H # # $3
Sco # s.heap # # $4
C.map rD $1
some .builtin # $1 $1
.lst ys $1
\"\"lot\" %1str [1
r_k hr aN zc '0 $1 zg $2 $2
z9V rsX # zd '0 $1 $3
some i $1
zaE # # # T.f8 # # # $7
some # $1 some # $1 [2
# \". getD &3proj # [0 $2
xI zc '1 $1 # $2
z0R T.FM # # T.f8 # zc '0 $1 $6
xE st $1
Tab n A $2
inner mp O $2
model prog w $2
\"\"bool\" %1str
o.data
iter
s.heap.push # $1
NameKind.free
\"\"_law_many\" %1str
h.natAbs
HT.sIx xs.length # # $3
Loc X.env.scope # $2
\"if # \"then # \"else none %6termIfThenElse
autoParam # aLr $2
ns.map D.int $1
en.mono stp $1
.inr .inr # $1 $1
pt.map tD $1
# \". isSome &3proj true `=
rfl # <2
\"( ! &2hygienicLParen \"( ! &2hygienicLParen \"\"NotFair\" %1str Str : \", # Str : @1 @3 \") &3tuple \", false @1 @3 \") &3tuple
\"( ! &2hygienicLParen \"( ! &2hygienicLParen \"\"NoTable\" %1str Str : \", # Str : @1 @3 \") &3tuple \", false @1 @3 \") &3tuple
I.tok * $1
op2 vr rfl $1 # $2
\"( ! &2hygienicLParen \"( ! &2hygienicLParen \"\"NoRule\" %1str Str : \", # Str : @1 @3 \") &3tuple \", false @1 @3 \") &3tuple
starEach es X.env $2
Gl X # $2
\"( ! &2hygienicLParen \"( ! &2hygienicLParen \"\"NoLot\" %1str Str : \", # Str : @1 @3 \") &3tuple \", false @1 @3 \") &3tuple
some rD u $1 $1
\"\"ValueError\" %1str
s.abs
\"\"zip\" %1str
us.length
xs.set # # $2
# \". isSome &3proj
X.pn
I.free
ae s O H Q I h # \\7
name
s1.heap.objs.size
af.toArray.size
d hd # \\2
ds s1 # \\2
items.length
this
\"\"number\" %1str
\"\"_law_some\" %1str
x.natAbs
r_k hr # $2
# X.env.locals `≠
List.range n $1
* * False \\2
p D.tup # $1 \\1
ns.getD # '0 $2
_t.mp hx $1
# \". lookup &3proj # $1 some # $1 `=
ρ.set i # $2
Q.getD # '0 $2
xs.length cap `≤
minL nz # $1 $1
maxL v $1
at0 p n0 $2
xl xs us $2
# \". set &3proj # some # $1 $2
none none [2
yj mg H Y ds vs $5
valS # w $2
wA zc '0 $1 $1
decide # # `≤ $1
eC .int '10 $1 $1
eOp yS # # $3
some .loc s.length '1 `+ $1 $1
\"\"all\" %1str
\"\"NoTable\" %1str
\"\"NotFair\" %1str
h.objs.size
X.stack
X.fs
I.bare
s₁
I.kIn
i.toNat
_aA.mp # $1
z.symm
xs s1 # \\2
ag.rep
\"\"lines\" %1str
\"\"_law_table\" %1str
h.row # # $2
h.sz
w.withFollow \"\"special-get-raises\" %1str # $2
wa # .builtin # $1 # $3
some .loc S.length $1 $1
zK r ls $2
Array.mk [0 $1
List.zip # # $2 \". map &3proj # $1
eOp yW zd # $1 # $3
det # # $2 \". natAbs &3proj
hd.getD a # $2
_t.mp hr $1
List Nat $1
T.getD # [0 $2
.Tuple # kt # $3
z.getD # '0 $2
.str \"\"next\" %1str $1
o e zF # # # $3 \\2
.head * $1
_W # rfl rfl # $4
# \". map &3proj s # \\1 $1
X.env.locals
I.os
args
scope.names.lookup # $1
af.length
j.natAbs
maxL # $1
acc.length
l.length
qs.length
Bn.tup # $1
Dd.D.int # $1
L.set # # $2
autoParam # aDe $2
vs.toArray.zip vs.toArray $1
* # H Y s ds vs Q r hd h # \\9 <3
W.boot_heap w.params $1
p.toList.map i # \\1 $1
.type \"\"dict\" %1str $1
zcM # # v.length # $4
f ρ s $2 \". bind &3proj # $1
LCg.lst af $1
scope.kind .function `=
A.deeper envOfC # # s.heap.objs.size # # $5 $1
zt # # yh # $1 zX # $5
eval # env $2
decide # # `= $1
some cz $1
# # # none none [5
xl # us $2
Den mg H Y # # $5
.type T $1
.ref it $1
Binds # fd # # $4
z7N hr z1M # $3
yb # N' scope # s₃ # $6
z3a zp $1
eOp z7r zd # $1 # $3
some tD jx r v $2 $1 $1
z9Z X.N scope.names # # $4
zD yG # zp $3
elim # hd # # $4
aN zc # $1 aN zc '1 $1 zg $2 $2
X.outer
b o hb e # \\4
j.toNat
codeAny # # # # # $5
ρ d s1 # \\3
maxL_mem # $1
\"\"thing\" %1str
\"\"numbers\" %1str
\"\"_law_numbers\" %1str
\"\"_law_lines_here\" %1str
List.zipWith # # # $3
s0.length
yo.nd
aN zc # $1 # $2
seqObj \"\"list\" %1str # # $3
Inv X ae # # # $5
bootBuiltins # $1 some # $1 `=
ixN xs.length # $2
Dd.D.int '0 $1
xs.foldl # x $2
absurd # _aH # $1 $2
RV # # s.length # # $5
O.set # some v $1 $2
Passes CX # # $3
aK xD aK xD # $2 $2
.str \"\"least\" %1str $1
O H Q t # # # $3 \\3
vals1 r $1
Bn.o rfl rfl $2
zR # zO.nd # $3
Den gm X $1 $1
foldedSetIterable iter X.env # $3
Nat Bool ^
ac3 vM rfl $1 rfl $2
.bool b $1
I.pin p # $2
iL acc $1 [1
_bc # I.kIn # # # # $6
pure x $1
autoParam \"∀ x @1 @0 \", # &5forall aIr $2
z1I hd $1
z3w # z4P # $1 $2
.dT ah $1
Addr
\"\"sorted\" %1str
\"\"DrawError\" %1str
Value.ref # $1
xs.drop # $1
bootBuiltins # $1
X.ex
I.len
I.freeC
I.tuple # $1
D O H # \\3
True.intro
NameKind
scope.names
ht.typeIs
s₁.heap
.dict # $1
ρ x s1 # \\3
IsPair # # # # $4
L2.Inv # # # # # $5
\"\"column\" %1str
\"\"places\" %1str
\"\"_law_script\" %1str
'2147483587
\"\"_law_more\" %1str
B.map # $1
M.lt
i hi j # \\3
.loc s.length $1
s.heap.update # Obj.mapSeq # $1 $2
List.replicate v.length # $2
Inv X ae O H # $5
z0K i j d t H Q e q # \\8 $1
wpAny model X.prog X.w $2 X.A # # # # $6
attributeBase # # X.env # $4
PyData.canLay0 # $1 true `=
sIx items.size # # $3
tuples' true $1
.type \"\"range\" %1str $1
# \"\"__name__\" %1str `≠
\"∀ ex s H @3 @0 \", zc6 # # # $3 &5forall
dn.mono ag $1
zt # # # zX # $5
.Constant # j # $3
\"∀ ex s H @3 @0 \", PG # # # $3 &5forall
I.list hq $1
ps.zip us $1
b o e _g # # $2 \\3
wa # .builtin # $1 xs H Q # \\3 $3
dII i j # \\2 $1
listOf s # $2
LotB n '104 v $3
_ad hp $1
.ok .ret # $1 $1
some .lst nL ps $1 $1 $1
some rL hd $1 $1
mainGlobals
List.range # $1
I.loc
s₂
False.elim # $1
I.kept # $1
List.replicate # # $2
\"\"size\" %1str
\"\"_law_due\" %1str
q.len
PyData.depth # $1
L.map rL $1
List Option # $1 $1
deal r v $2
cellsFrom # scope.names # $3
s.heap.push itO # # $2 $1
I.hok.fresh _k # $1 $1
swapsWith # # # X.env $4
seqObj \"\"list\" %1str vs.toArray # $3
autoParam # aOr $2
vs.length ps.length `=
env.kindOf n $1
.Subscript # # pos $3
some .loc s0.length $1 $1
tb.lookup k $1
.Attribute # # ao $3
env.scope.kind .function `==
e.trans h1 $1
pure false $1
frs outer $1
# rfl # # <4
i j .int # $1 \\2
r.drop n $1
List Env $1
z7n # T.f18 # $3
d.flat true `=
_U.mp # $1 \". elim &3proj # # $2
A.getD # [0 $2
V.ref b $1
l.map f $1
l.map g $1
\"\"one\" %1str \"\"other\" %1str [2
zR # qS.nd # $3
aK zp aK zp zg $2 $2
.Name x pos $2
List Str Str `× $1
List Int Int `× $1
deal .tu v $2
K.lookup # $1
\"\"BaseException.__getattribute__\" %1str
W.kitOne # # # $3
\"\"by_next\" %1str
\"\"by_least\" %1str
\"\"by_all\" %1str
\"\"by_turn\" %1str
\"\"are_weights\" %1str
\"\"weights\" %1str
seenQ # $1
prog
xs.take # $1
I.ok
False
ae s O H D I h # \\7
# \". toArray &3proj
cLine
r.map # $1
_ac.mp # $1
mg.K
h.imp # # $2
ρ xs s1 # \\3
FlV.nx # $1
\"\"tables\" %1str
\"\"_law_top\" %1str
y.natAbs
ended # $1
k h1 h2 # \\3
deal # v $2
\"if # \". isEmpty &3proj \"then # \"else # %6termIfThenElse
A.handled none `=
I.tuple hq $1
A.mark some # $1 $1
List Stmt $1
T.map rD $1
call2 # vr rfl $1 $2
ended v $1
maxL ns $1
OpR X binaryOp .Mult $1 # $3
I.cell # c # $3
backToKw # keywordEach # X.env $2 $2
\"\"dict\" %1str
\"\"max\" %1str
\"\"min\" %1str
\"\"Ended\" %1str
\"\"NoBottom\" %1str
\"\"NoCube\" %1str
\"\"NoDeed\" %1str
\"\"NoNumber\" %1str
\"\"NoRoot\" %1str
\"\"NoRow\" %1str
\"\"NoSize\" %1str
\"\"NoStep\" %1str
\"\"NoText\" %1str
\"\"NoTuple\" %1str
\"\"NotAlike\" %1str
\"\"TooMany\" %1str
Shared
xs.map # $1
I.ok.above
I.hok # # # $3
I.base
I.cell
_U.mp # $1
_e.mp # $1
holding # # $2
pos.line
I1.kept # $1
IsPart # # $2
HT.sIx # # # $3
r.drop # $1
xs.all # $1
loose
s₃.heap.objs.size
okR.here # # # $3
b.length
s2.set # # $2
maxL_ge # # $2
bools # $1
a.natAbs
List.range' # # $2
l.map # $1
x.toNat
lexLt # # $2
L.map # $1
p.size
\"\"own\" %1str
\"\"_law_own\" %1str
\"\"_law_by\" %1str
\"\"_law_later\" %1str
T.map # $1
v1.length
ps.map # $1
Pg.xh
hr hc # \\2
g.row # # $2
.builtin \"\"object.__class__\" %1str $1
\"∀ \"( w @1 \": World @2 @0 \") &5explicitBinder \"( os @1 \": OsState @2 @0 \") &5explicitBinder @2 @0 \", # some # $1 `= &5forall
LotB n # # $3
List.replicate # none $2
sc.names.lookup x $1
assignEach # X.env $2
h.Ns mainGlobals # $2
h1.here stp.rep # $2
.seq af.toArray # $2
zct # scope.names # $3
ys.length sizeLine `≤
s.heap.push seqObj \"\"list\" %1str # # $3 $1
I.base.there b # # # $4
model X.prog # $2
Option Addr $1
# \". update &3proj s.heap.objs.size Obj.mapSeq # $1 $2
K.lookup a $1
W.keepIn # .ref f $1 $2
eIs \"\"tuple\" %1str # $2
.seq # \". toArray &3proj $1
v.foldl cg # $2
hr # getD_mem # $1 $2
seqObj \"\"tuple\" %1str vs.toArray # $3
Gl X \"\"range\" %1str $2
ps.getD j # $2
x.fdiv h $1
toPys xs $1
_o.mp hx $1
ls.length '50000 `≤
absurd z # $2
h.step r # $2
start # vs $2
RW.rt zkc # # $2 $1
af.toList
\"\"__class__\" %1str
Sum.inl # $1
.local
* * * H * I h # \\7
pyNext # $1
b hb o e # \\4
A.units
# \". lookup &3proj # $1
s.TypeIs # # $2
ns.map # $1
yj.cons # # $2
D.int
b.toNat
findBy # # # $3
Cx.at_ # # # $3
ExcCls # # $2
arrOf # $1
z.length
kasC_bind # $1
\"\"_law_k\" %1str
\"\"_law_total\" %1str
'2147483629
\"\"_law_far\" %1str
\"\"_law_lots\" %1str
\"\"_law_tables\" %1str
\"\"_law_row\" %1str
Pm.dot # # $2
ls.length
\"λ p @1 \": Int Int `× &2typeSpec @1 \"=> # &4basicFun &2fun
K.map # $1
'1000000000000000000
call2 # # $2
getD_get # $1
Q.length
\"\"_law_e\" %1str
T.f17
yB.nd
wb.nd
q.natAbs
L.drop # $1
envOfC # # s.heap.objs.size # # $5
ls.map rD $1
List.range v.length $1
List.zipWith line q # \\2 # # $3
W.openGood # looseQ $2
behindInMarks op # $2
ze zU zb # zj $2 $2
one qs.length $1
stp # v $2
yj mg H Y # vs $5
some .loc S0.length $1 $1
ns.idxOf k $1
ao.endLine ak.line `==
_W # # rfl # $4
call .builtin # $1 # $2
\"∀ ex s H @3 @0 \", RE # E # # $4 &5forall
eIs \"\"bool\" %1str # $2
r.take n $1
h.get? # $1
W.SharedT
PySem.Challenge.pw_drawndown_k21_weights_looked_at_and_told
W.boot_drawn
W.boot_toks
Paired # # # $3
O.length
I.base.keep # # # # # # $6
I.base.slot # # # # # # $6
b o e n hb hx # \\6
I.ok.kind
s'.os
isTrue # # # $3
X.wish # $1
s1.heap.push # $1
s1.heap
# \". contains &3proj # $1
* * * * * * * q # \\8
A.depth
BindsTo # # # # $4
bindArgs # # $2
kindOf
Builtin.Slice.slicePlaces # # # $3
x lo hi H Q # \\5
pl.isList
s₁.heap.get? # $1
callerA
aF.line
Y.length
r.cell # # # $3
ds.length
ρ.length
e.trans # $1
bs.length
intsOf # $1
_ai.mp # $1
x.bind # $1
vs H Q E h # \\5
dif_pos # $1
s1.take # $1
sT.abs.heap
xs.size
Cx.mk_ # # # $3
ρ s a s' e # \\5
kas_item # $1
p.toList.Perm # $1
kas_count # # $2
kas_st # # # $3
\"\"at_column\" %1str
\"\"place\" %1str
\"\"greatest\" %1str
\"\"others\" %1str
\"\"quotients\" %1str
\"\"_law_mine\" %1str
\"\"_law_sides\" %1str
\"\"_law_most\" %1str
\"\"_law_quotients\" %1str
r.take # $1
A.length
v.idxOf # $1
_cQ.mp # $1
uM.mpr # $1
h.nzne
u.length
dl.lt
h.le4
Pm.getD_mem # $1
d e hd he # \\4
LeS.calm
# \". eraseIdx &3proj # $1
S.length
Has.mono # # $2
xx.nd
g.len
B.zipIdx # $1
W.excIn # # # \"\"ValueError.__new__\" %1str $4
Den mg # # # # $5
.of_wp prog w A R s h # \\6 $1
LeS.seq LeS.calm # $2
AllBare s'.gens $1
* * h' h'.elim \\3
False.elim hq $1
Txt.slice # # none $3
Ms.lookup y $1
List.take n $1
Option Bool $1
Array Keyed $1
z7N hr # # $3
kev ps.length # # $3
LeM.mof LeS.seq # # $2 $1
.Subscript # # p1 $3
qs.filter a # \\1 $1
ys.getD # .non $2
L'.map rL $1
pure true $1
Heap.FlyingW # # ea # # # $6
IntsAre # ns $2
h1.here r1 # $2
absurd # _az $2
.Subscript a # # $3
I.base.free b # # # # $5
AllBare # $1
dn.mono # $1
minL_mem # $1
List.zip # # $2
T.f13
zO.nd
\"∀ \"( kV aE pm @3 \": Value @2 @0 \") &5explicitBinder \"( an @1 \": Option Addr @1 &2app @2 @0 \") &5explicitBinder \"( aj ct @2 \": Value @2 @0 \") &5explicitBinder \"( us @1 \": List Value @1 &2app @2 @0 \") &5explicitBinder @4 @0 \", # # ^ &5forall
pushCells # scope.names $2
p.toList.Pairwise i j # \\2 $1
X.s₀.heap.get? b $1
kas_sort ps.length $1
swapsWithSole # # pos.line # $4
I1.fpOk # I1.hok.fresh # $1 $2
s'.heap.get? acc $1
swappedStores # # X.env $3
Y1.take Y.length $1
List.range # $1 \". filterMap &3proj # $1
LeS.drop LeE.call # $1 $1
s.heap.IsSliceOf sl # # # $4
Array GenState $1
X.base.get? b $1
\"∀ \"{ ds @1 \": List D @1 &2app @2 \"} &4implicitBinder \"{ vs @1 \": List V @1 &2app @2 \"} &4implicitBinder @2 @0 \", # # ^ &5forall
strKind X.prog # $2
p.toList.length # `=
uM.mp minL_mem # $1 $1
List.lookup x # $2
Option Expr $1
Option Dd.D $1
bs.idxOf k $1
Option Str $1
xs.all isI $1
ym j.toNat $1
.function
w.params
treeTable
I.hok.fresh # $1
cellsFrom # # # $3
LCg.lst # $1
D.flat.flats # $1
Prod.fst
\"∀ \"( aj @1 \": Value @2 @0 \") &5explicitBinder \"( A @1 \": Around @2 @0 \") &5explicitBinder \"( outer @1 \": List Env @1 &2app @2 @0 \") &5explicitBinder \"( s @1 \": Shared @2 @0 \") &5explicitBinder \"( H @1 \": Hp @2 @0 \") &5explicitBinder \"( E @1 \": XK @2 @0 \") &5explicitBinder @6 @0 \", # # ^ &5forall
importedModules p.main.body $1
\"∀ \"( names @1 \": List \"( ! &2hygienicLParen Str NameKind `× \") &3paren @1 &2app @2 @0 \") &5explicitBinder \"( acc @1 \": List \"( ! &2hygienicLParen Str Addr `× \") &3paren @1 &2app @2 @0 \") &5explicitBinder @2 @0 \", # # ^ &5forall
Builtin.SmallTypes.nextOf .ref # $1 $1
Builtin.Tuple.tupleExact * $1
ao.endLine # `==
List.range w.length $1
ac3 # rfl $2
.type \"\"StopIteration\" %1str $1
pure ForInStep.yield # $1 $1
base.Ns mainGlobals # $2
af.toArray.any eqU # $1 $1
Rn.fair h.toLot $1
qs.map Prod.fst $1
z9U # # s2 e2 St W st bd bz # \\7 $3
s'.heap.get? b $1
w.withFollow row # $2
zhC X.env.kindOf scope.names $2
LeS.if_ LeS.fNo # $2
Vis X.env.scope # $2
L.map List.drop # $1 $1
.loc s1.length $1
W.kas_sort n $1
sortedAll s.heap # # $3
wpAny_letGo _m # $1 $1
W.topFrom treeTable # # # # $5
failedOf ay $1
qs.Pairwise a b # \\2 $1
env.kindOf # $1
s.heap.get? # $1
I1.hok.fresh # $1
Obj.mapSeq # $1
qs.map pD $1
importedModules # $1
s.heap.update # # $2"
def zL:Array String:=(zTab.splitOn "\n").toArray
def zK(k:Lean.Name)(l:List Lean.Syntax):Lean.Syntax:=.node .none k l.toArray
def zT(k:String)(l:List Lean.Syntax):Lean.Syntax:=zK (.str `Lean.Parser.Term k) l
def zO(s:String):Lean.Syntax:=Lean.mkAtom s
def zI(s:String):Lean.Syntax:=Lean.mkIdent s.toName
def zN(k:Lean.Name)(l r:String)(ys:List Lean.Syntax):Lean.Syntax:=zK k [zO l,zK `null (ys.intersperse (zO ",")),zO r]
def zF(d:Nat)(s:Nat×List Lean.Syntax)(x:Lean.Syntax):Nat×List Lean.Syntax:=(s.1,x::s.2.drop d)
def zG(n:Nat)(s:Nat×List Lean.Syntax):Lean.Syntax:=s.2.getD n .missing
def zX(xs:Array Lean.Syntax)(n:Nat):Lean.Syntax:=xs.getD n .missing
def zS(xs:Array Lean.Syntax)(p:Nat×List Lean.Syntax)(t:String):Nat×List Lean.Syntax:=
 let c:=t.front
 let u:=(t.drop 1).toString
 let g:=u.front.toNat-48
 let w:=(u.drop 1).toString
 let ys:=(p.2.take g).reverse
 let a:=zG 1 p
 let b:=zG 0 p
 let h:=zK `hygieneInfo [Lean.mkIdent .anonymous]
 if c=='#' then (p.1+1,zX xs p.1::p.2)
 else if c=='"' then zF 0 p (zO u)
 else if c=='!' then zF 0 p h
 else if c=='.' then zF 0 p (zT "dotIdent" [zO ".",zI u])
 else if c=='*' then zF 0 p (zT "hole" [zO "_"])
 else if c=='\'' then zF 0 p (zK `num [zO u])
 else if c=='`' then zF 2 p (zK (.mkSimple ("term_"++u++"_")) [a,zO u,b])
 else if c=='^' then zF 2 p (zT "arrow" [a,zO "→",b])
 else if c==':' then zF 2 p (zT "typeAscription" [zT "hygienicLParen" [zO "(",h],a,zO ":",zK `null [b],zO ")"])
 else if c=='<' then zF g p (zN `Lean.Parser.Term.anonymousCtor "⟨" "⟩" ys)
 else if c=='[' then zF g p (zN `«term[_]» "[" "]" ys)
 else if c=='@' then zF g p (zK `null ys)
 else if c=='$' then zF (g+1) p (zT "app" [zG g p,zK `null ys])
 else if c=='%' then zF g p (zK (.mkSimple w) ys)
 else if c=='&' then zF g p (zT w ys)
 else if c=='\\' then zF (g+1) p (zT "fun" [zO "fun",zT "basicFun" [zK `null ((p.2.drop 1).take g).reverse,zK `null [],zO "=>",b]])
 else zF 0 p (zI t)
def zH(xs:Array Lean.Syntax)(p:Nat×List Lean.Syntax):List String->Nat×List Lean.Syntax
 | []=>p | t::l=>zH xs (zS xs p t) l
def zV(c:Char):Nat:=let n:=c.toNat;if n<58 then n+4 else if n<91 then n-39 else n-97
def zP(s:String):String:=zL.getD (match s.toList with | [a,_]=>zV a | [a,b,_]=>52+62*zV a+zV b | _=>10000) ""
def zA(s:String)(xs:Array Lean.Syntax):Lean.Syntax:=
 if s.back != '!' then .missing else
 let r:=zP s
 if r.isEmpty then .missing else
 let p:=zH xs (0,[]) (r.splitOn " ")
 if p.1==xs.size then zG 0 p else .missing
def zC(x:Lean.Syntax)(xs:Array Lean.Syntax):Lean.Syntax:=match x.getId with | .str .anonymous s=>zA s xs | _=>.missing
def zD(x:Lean.Syntax):Bool:=match x.getId with | .str .anonymous s=>s.back=='!' | _=>false
def zE(x:Lean.Syntax):Lean.Syntax:=if zD x then (let y:=zC x #[];if y.isMissing then x else y) else x
def zB(x:Lean.Syntax)(xs:Array Lean.Syntax):Lean.MacroM Lean.Syntax:=if zD x then (let y:=zC x (xs.map zE);if y.isMissing then Lean.Macro.throwUnsupported else pure y) else Lean.Macro.throwUnsupported
end Zd
local macro_rules | `($f:ident $xs*)=>Zd.zB f xs
local macro_rules (kind:=ident) | `($f:ident)=>Zd.zB f #[]
open PySem PySem.Spec PyProof.Rows
noncomputable abbrev _a:=@wpAny_bind
noncomputable abbrev _b:=@List.getElem?_eq_getElem
noncomputable abbrev _c:=@List.getElem?_cons_zero
noncomputable abbrev _d:=@List.getElem?_cons_succ
noncomputable abbrev _e:=@List.getElem?_eq_some_iff
noncomputable abbrev _g:=@Heap.get?_push_of_some
noncomputable abbrev _h:=@List.length_cons
noncomputable abbrev _i:=@if_pos
noncomputable abbrev _j:=@Nat.lt_of_lt_of_le
noncomputable abbrev _k:=@Nat.le_refl
noncomputable abbrev _l:=@List.length_nil
noncomputable abbrev _m:=@wpAny_pure
noncomputable abbrev _n:=@List.getD_eq_getElem?_getD
noncomputable abbrev _o:=@List.mem_iff_getElem
noncomputable abbrev _p:=@Option.some.inj
noncomputable abbrev _q:=@if_neg
noncomputable abbrev _r:=@Heap.lt_size
noncomputable abbrev _s:=@List.size_toArray
noncomputable abbrev _t:=@List.mem_map
noncomputable abbrev _u:=@List.map_cons
noncomputable abbrev _v:=@if_true
noncomputable abbrev _w:=@List.mem_of_getElem?
noncomputable abbrev _x:=@Heap.get?_push_size
noncomputable abbrev _y:=@Option.some.injEq
noncomputable abbrev _z:=@List.length_map
noncomputable abbrev _A:=@List.getElem?_map
noncomputable abbrev _B:=@List.mem_or_eq_of_mem_set
noncomputable abbrev _C:=@Nat.pow_le_pow_right
noncomputable abbrev _D:=@Nat.ne_of_lt
noncomputable abbrev _E:=@List.set_cons_zero
noncomputable abbrev _F:=@PassesOwn.never
noncomputable abbrev _G:=@List.getElem_mem
noncomputable abbrev _H:=@Nat.le_trans
noncomputable abbrev _I:=@List.getElem?_append_left
noncomputable abbrev _J:=@List.mem_cons
noncomputable abbrev _K:=@List.mem_cons_of_mem
noncomputable abbrev _L:=@List.set_cons_succ
noncomputable abbrev _M:=@List.getElem?_eq_none
noncomputable abbrev _N:=@Option.bind_some
noncomputable abbrev _O:=@List.mem_append_right
noncomputable abbrev _P:=@PyProof.Rows.slot_tuple_getitem
noncomputable abbrev _Q:=@Function.comp_def
noncomputable abbrev _R:=@Bool.and_eq_true
noncomputable abbrev _S:=@List.mem_of_mem_take
noncomputable abbrev _T:=@List.all_eq_true
noncomputable abbrev _U:=@List.mem_append
noncomputable abbrev _V:=@Int.toNat_natCast
noncomputable abbrev _W:=@wpAny_field
noncomputable abbrev _X:=@List.lookup_cons
noncomputable abbrev _Y:=@Classical.byContradiction
noncomputable abbrev _Z:=@wpAny_mono
noncomputable abbrev _aa:=@PyProof.Rows.callWith_type1
noncomputable abbrev _ab:=@List.getElem?_set_ne
noncomputable abbrev _ac:=@Bool.and_eq_true_iff
noncomputable abbrev _ad:=@List.of_mem_zip
noncomputable abbrev _ae:=@List.map_map
noncomputable abbrev _af:=@wpAny_callSpecial?_slot
noncomputable abbrev _ag:=@Option.map_some
noncomputable abbrev _ah:=@List.getElem?_set_self
noncomputable abbrev _ai:=@Option.map_eq_some_iff
noncomputable abbrev _aj:=@List.mem_cons_self
noncomputable abbrev _ak:=@List.getElem?_take_of_lt
noncomputable abbrev _al:=@wpAny_setField_rec
noncomputable abbrev _am:=@Nat.zero_le
noncomputable abbrev _an:=@PySem.mem_of_lookup
noncomputable abbrev _ao:=@List.map_congr_left
noncomputable abbrev _ap:=@decide_eq_false
noncomputable abbrev _aq:=@wpAny_Call_Name_kw
noncomputable abbrev _ar:=@List.length_append
noncomputable abbrev _as:=@Nat.zero_add
noncomputable abbrev _at:=@congrArg
noncomputable abbrev _au:=@wpAny_loadPart'
noncomputable abbrev _av:=@List.nil_append
noncomputable abbrev _aw:=@wpAny_call_entry
noncomputable abbrev _ax:=@List.length_drop
noncomputable abbrev _ay:=@decide_eq_true_eq
noncomputable abbrev _az:=@Bool.false_ne_true
noncomputable abbrev _aA:=@beq_iff_eq
noncomputable abbrev _aB:=@Nat.mul_le_mul_right
noncomputable abbrev _aC:=@List.mem_of_mem_drop
noncomputable abbrev _aD:=@Option.getD_some
noncomputable abbrev _aE:=@List.filter_cons
noncomputable abbrev _aF:=@List.getElem?_range
noncomputable abbrev _aG:=@wpAny_newObj_type
noncomputable abbrev _aH:=@Nat.lt_irrefl
noncomputable abbrev _aI:=@Heap.size_push
noncomputable abbrev _aJ:=@Int.natAbs_mul
noncomputable abbrev _aK:=@List.append_nil
noncomputable abbrev _aL:=@List.ext_getElem
noncomputable abbrev _aM:=@List.sum_cons
noncomputable abbrev _aN:=@List.mem_range
noncomputable abbrev _aO:=@Int.zero_add
noncomputable abbrev _aP:=@wpAny_loadPart_at
noncomputable abbrev _aQ:=@List.zipWith_cons_cons
noncomputable abbrev _aR:=@List.replicate_succ
noncomputable abbrev _aS:=@Nat.lt_or_eq_of_le
noncomputable abbrev _aT:=@wpAny_holding
noncomputable abbrev _aU:=@List.map_drop
noncomputable abbrev _aV:=@wpAny_truthy_bool
noncomputable abbrev _aW:=@Nat.lt_succ_of_lt
noncomputable abbrev _aX:=@List.length_eq_zero_iff
noncomputable abbrev _aY:=@Array.length_toList
noncomputable abbrev _aZ:=@Int.add_zero
noncomputable abbrev _a0:=@List.getElem_inj
noncomputable abbrev _a1:=@if_false
noncomputable abbrev _a2:=@F.slot_tuple_iterator_next
noncomputable abbrev _a3:=@wpAny_seqItems
noncomputable abbrev _a4:=@Nat.lt_of_le_of_lt
noncomputable abbrev _a5:=@decide_eq_true
noncomputable abbrev _a6:=@Int.mul_neg_of_neg_of_pos
noncomputable abbrev _a7:=@wpAny_passesOwn
noncomputable abbrev _a8:=@List.foldl_cons
noncomputable abbrev _a9:=@Int.emod_nonneg
noncomputable abbrev _ba:=@List.mem_append_left
noncomputable abbrev _bb:=@List.map_set
noncomputable abbrev _bc:=@W.kia_one
noncomputable abbrev _bd:=@List.getElem?_replicate
noncomputable abbrev _be:=@Option.bind_eq_some_iff
noncomputable abbrev _bf:=@Int.mul_nonneg
noncomputable abbrev _bg:=@List.map_zipWith
noncomputable abbrev _bh:=@Nat.le_of_lt
noncomputable abbrev _bi:=@call_meets
noncomputable abbrev _bj:=@SeqAt.canLay_of_shaped
noncomputable abbrev _bk:=@List.mem_singleton
noncomputable abbrev _bl:=@List.filter_eq_nil_iff
noncomputable abbrev _bm:=@Int.emod_lt_of_pos
noncomputable abbrev _bn:=@Int.lt_of_le_of_lt
noncomputable abbrev _bo:=@List.zip_cons_cons
noncomputable abbrev _bp:=@List.mem_filter
noncomputable abbrev _bq:=@F.slot_int_rmul
noncomputable abbrev _br:=@Prod.mk.injEq
noncomputable abbrev _bs:=@W.kia_tup
noncomputable abbrev _bt:=@List.length_replicate
noncomputable abbrev _bu:=@F.slot_enumerate_next
noncomputable abbrev _bv:=@Int.mul_ediv_add_emod
noncomputable abbrev _bw:=@List.flatten_cons
noncomputable abbrev _bx:=@List.getElem?_append_right
noncomputable abbrev _by:=@Calls.evalArgs_plain
noncomputable abbrev _bz:=@Int.fdiv_eq_ediv_of_nonneg
noncomputable abbrev _bA:=@PySem.F.excBase_ValueError
noncomputable abbrev _bB:=@Nat.add_le_add
noncomputable abbrev _bC:=@Int.natAbs_of_nonneg
noncomputable abbrev _bD:=@List.getElem_zipWith
noncomputable abbrev _bE:=@List.length_take
noncomputable abbrev _bF:=@List.cons_append
noncomputable abbrev _bG:=@List.getElem_map
noncomputable abbrev _bH:=@List.zipIdx_cons
noncomputable abbrev _bI:=@wpAny_binaryOp_repeat_ref
noncomputable abbrev _bJ:=@List.drop_eq_getElem_cons
noncomputable abbrev _bK:=@beq_eq_false_iff_ne
noncomputable abbrev _bL:=@List.filterMap_cons
noncomputable abbrev _bM:=@Heap.SameBut.update
noncomputable abbrev _bN:=@List.length_pos_iff
noncomputable abbrev _bO:=@List.filter_eq_self
noncomputable abbrev _bP:=@PySem.F.args_tuple_add_2
noncomputable abbrev _bQ:=@wpAny_comprehension_free
noncomputable abbrev _bR:=@PyProof.noPylong_of_log2
noncomputable abbrev _bS:=@Int.dvd_trans
noncomputable abbrev _bT:=@Ne.symm
noncomputable abbrev _bU:=@List.lookup_append
noncomputable abbrev _bV:=@Int.mul_nonneg_of_nonpos_of_nonpos
noncomputable abbrev _bW:=@PySem.F.entry_tuple_add
noncomputable abbrev _bX:=@PySem.F.plainAttrs_list
noncomputable abbrev _bY:=@Nat.pow_add
noncomputable abbrev _bZ:=@Nat.le_mul_of_pos_right
noncomputable abbrev _b0:=@List.set_eq_take_append_cons_drop
noncomputable abbrev _b1:=@PySem.F.slot_tuple_add
noncomputable abbrev _b2:=@subscriptTail_builtinR
noncomputable abbrev _b3:=@wpAny_Call_method_late
noncomputable abbrev _b4:=@Calls.callWith_builtin
noncomputable abbrev _b5:=@List.append_assoc
noncomputable abbrev _b6:=@List.reverse_cons
noncomputable abbrev _b7:=@Nat.lt_of_succ_lt_succ
noncomputable abbrev _b8:=@Nat.le_succ_of_le
noncomputable abbrev _b9:=@Heap.get?_push_ne
noncomputable abbrev _ca:=@List.take_append_drop
noncomputable abbrev _cb:=@F.typeOf_object_class
noncomputable abbrev _cc:=@wpAny_eqBool_int
noncomputable abbrev _cd:=@typeIs_int
noncomputable abbrev _ce:=@Nat.lt_succ_self
noncomputable abbrev _cf:=@Nat.le_add_right
noncomputable abbrev _cg:=@F.slot_tuple_mul
noncomputable abbrev _ch:=@Nat.mul_lt_mul''
noncomputable abbrev _ci:=@Int.mul_le_mul_of_nonneg_right
noncomputable abbrev _cj:=@Int.not_lt
noncomputable abbrev _ck:=@wpAny_standAt
noncomputable abbrev _cl:=@List.all_cons
noncomputable abbrev _cm:=@listUpdate_at
noncomputable abbrev _cn:=@List.map_take
noncomputable abbrev _co:=@wpAny_updateSeq_pair
noncomputable abbrev _cp:=@List.forall_mem_cons
noncomputable abbrev _cq:=@Int.mul_le_mul_of_nonneg_left
noncomputable abbrev _cr:=@List.map_append
noncomputable abbrev _cs:=@wpAny_execs_nil
noncomputable abbrev _ct:=@List.nodup_cons
noncomputable abbrev _cu:=@List.length_set
noncomputable abbrev _cw:=@F.slot_zip_next
noncomputable abbrev _cx:=@Nat.two_pow_pos
noncomputable abbrev _cy:=@entry_tuple_getitem
noncomputable abbrev _cz:=@List.take_succ_cons
noncomputable abbrev _cA:=@Nat.ne_of_gt
noncomputable abbrev _cC:=@decide_false
noncomputable abbrev _cE:=@Int.ofNat_lt
noncomputable abbrev _cF:=@Calls.Constant_str
noncomputable abbrev _cH:=@assignInOrder_cons
noncomputable abbrev _cI:=@wpAny_rule
noncomputable abbrev _cJ:=@List.mem_filterMap
noncomputable abbrev _cK:=@Calls.spliced_cons
noncomputable abbrev _cM:=@slicePart_none
noncomputable abbrev _cN:=@args_tuple_getitem
noncomputable abbrev _cO:=@wpAny_newTuple
noncomputable abbrev _cP:=@List.getElem_idxOf
noncomputable abbrev _cQ:=@Nat.not_lt
noncomputable abbrev _cS:=@Int.lt_of_lt_of_le
noncomputable abbrev _cY:=@wpAny_assign_Name
noncomputable abbrev _cZ:=@Calls.spliced_nil
noncomputable abbrev _c0:=@List.take_sublist
noncomputable abbrev _c1:=@wpAny_sequenceKey
noncomputable abbrev _c2:=@F.args_int_rmul_2
noncomputable abbrev _c3:=@Nat.le_of_succ_le
noncomputable abbrev _c4:=@Int.le_refl
noncomputable abbrev _c5:=@Nat.le_succ
noncomputable abbrev _c6:=@seqEpoch_at
noncomputable abbrev _c7:=@bne_self_eq_false
noncomputable abbrev _c8:=@List.length_range
noncomputable abbrev _c9:=@Nat.add_mul
noncomputable abbrev _da:=@Int.natAbs_add_le
noncomputable abbrev _db:=@Int.gcd_dvd_right
noncomputable abbrev _dc:=@List.ext_getElem?
noncomputable abbrev _dd:=@decide_true
noncomputable abbrev _de:=@of_decide_eq_true
noncomputable abbrev _df:=@List.Pairwise.map
noncomputable abbrev _dh:=@wpAny_attempt
noncomputable abbrev _di:=@wpAny_onRaise
noncomputable abbrev _dl:=@wpAny_newList
noncomputable abbrev _dn:=@W.cellsFrom_some
noncomputable abbrev _do:=@noFill_tuple_add
noncomputable abbrev _dp:=@Option.getD_none
noncomputable abbrev _dq:=@F.slot_int_index
noncomputable abbrev _dr:=@F.entry_int_rmul
noncomputable abbrev _ds:=@List.prefix_refl
noncomputable abbrev _du:=@List.mem_toArray
noncomputable abbrev _dz:=@Int.gcd_dvd_left
noncomputable abbrev _dA:=@Int.dvd_antisymm
noncomputable abbrev _dE:=@codeAny_mono
noncomputable abbrev _dF:=@W.callWith_K
noncomputable abbrev _dG:=@wpAny_typeOf
noncomputable abbrev _dI:=@Nat.mul_comm
noncomputable abbrev _dL:=@Nat.sub_self
noncomputable abbrev _dM:=@Int.dvd_zero
noncomputable abbrev _dN:=@Nat.pow_succ
noncomputable section
namespace Dd
noncomputable def dArgs(s:Stmt):Arguments:=match s with
 | .FunctionDef _ a _ _ _ _ _ _ _ _=>a | _=>{posonlyargs:=[],args:=[],vararg:=none,kwonlyargs:=[],kw_defaults:=[],kwarg:=none,defaults:=[]}
noncomputable def zpk(s:Stmt):nt!:=match s with
 | .FunctionDef _ _ b _ _ _ _ _ _ _=>b | _=>[]
noncomputable def zkY(s:Stmt):Scope:=match s with
 | .FunctionDef _ _ _ _ _ _ sc _ _ _=>sc | _=>{kind:=r7!,names:=[],isGenerator:=false,isCoroutine:=false}
noncomputable def zce(h:Heap)(a:Addr):W.Frag:=match pY! a with | some o=>[(a,o)] | none=>[]
noncomputable def zuf(h:Heap)(g:W.Frag)(x:Str):W.Frag:=match gl! g x with
 | some (some (.ref f))=>zce h f++(match pY! f with
   | some ⟨_,_,.func fd,_⟩=>(match fd.code with | .ref c=>zce h c | _=>[]) | some ⟨_,_,.cls cd,_⟩=>zce h cd.ns | _=>[]) | _=>[]
noncomputable def gat(h:Heap)(ns:aq!):W.Frag:=zce h ma!++ns.flatMap (zuf h (zce h ma!))
noncomputable abbrev FV:=Str×Str×Arguments×FuncBody×Scope×lg!×dD! lg!×dR!×lg!×cb!×cb!
noncomputable def zjS(K:W.Frag)(x:Str):bm! FV:=match gl! K x with
 | some (some (.ref f))=>(match mW! f with
   | some ⟨_,_,.func fd,_⟩=>b! (fd.name,fd.qualname,fd.params,fd.body,fd.scope,fd.globals,fd.closure,fd.defaults,fd.builtins,W.codeIn K fd.code fd.qualname,oL! K) | _=>none) | _=>none
noncomputable def zr1(x:Str)(st:Stmt):bm! FV:=b! (x,x,dArgs st,.stmts (zpk st),zkY st,ma!,[],X!,builtinsNs,c!,c!)
noncomputable def zmO(K:W.Frag)(x:Str):Bool:=match gl! K x with | some none=>true | _=>false
noncomputable def zo4(K:W.Frag)(x:Str):dd!:=match gl! K x with | some (some (.int i _))=>h0! | _=>none
noncomputable def sameRef:dR!->bm! aS!->cb!
 | .ref f,some (some (.ref g))=>f==g | _,_=>false
noncomputable def zhO:dR!->r4!
 | .str k _=>b! k | _=>none
noncomputable def zaU:eC! dR!
 | .type c=>c==nB! | _=>false
noncomputable def zeu(K:W.Frag):d9! DictEntry->aq!->gm! Int (r4!×cb!)
 | e::es,y::ys=>(e.hash,zhO e.key,sameRef e.val (gl! K y))::zeu K es ys | [],[]=>[] | _,_=>[(0,a!,r!)]
noncomputable def znl(K:W.Frag)(x:Str)(ys:aq!):bm! (cb!×cb!×cb!×cb!×gm! Int (r4!×cb!)):=match gl! K x with
 | some (some (.ref a))=>(match oK! with
   | some ⟨c,d,.dict es _,sl⟩=>b! (zaU c,d.isNone,sl.size==0,a==sysModules,zeu K es.toList ys) | _=>none) | _=>none
noncomputable def zrI(w:World)(tb:mT!):bm! (cb!×cb!×cb!×cb!×gm! Int (r4!×cb!)):=b! (c!,c!,c!,r!,tb.map λp=>(PyData.keyHash r8! p.1,b! p.1,c!))
noncomputable def zqj:bU!->bm! i!
 | []=>b! [] | .int i _::r=>(zqj r).map (i::·) | _=>none
noncomputable def zj2:eC! dR!
 | .type c=>c==cV! | _=>false
noncomputable def zrs(K:W.Frag)(x:Str):bm! (cb!×bm! i!):=match gl! K x with
 | some (some (.ref a))=>(match oK! with
   | some ⟨c,_,.seq af _,_⟩=>b! (zj2 c,zqj o1!) | _=>none) | _=>none
noncomputable def bmV:bU!:=[ar! iA!,ar! "Exception",ar! "BaseException",ar! "object"]
noncomputable def z6P(K:W.Frag)(C:Addr):Bool:=match mW! C with | some ⟨.type t,_,.cls _,_⟩=>t=="type" | _=>false
noncomputable def z8T(K:W.Frag)(x:Str):Bool:=match gl! K x with
 | some (some (.ref C))=>rb! K C bmV&&(W.findIn K ap! "__getattribute__"==b! (hV! mX!)&&(W.findIn K ap! "__getattr__"==b! a! && (W.findIn K ap! o2!==b! (b! ou!)&&(W.mroIn K C (ar! "object")==b! c!&&(W.mroIn K C (ar! "BaseException")==b! c!&&(z6P K C&&mY! K ap! (ar! iA!)==b! c!)))))) | _=>false
noncomputable def z86(K:W.Frag)(x y:Str):bm! (rl!×rl!):=match gl! K x,gl! K y with
 | some (some (.ref C)),some (some (.ref D))=>b! (W.mroIn K C (w! D),mY! K ap! (w! D)) | _,_=>none
noncomputable abbrev Obs:=mm! FV×d9! cb!×d9! dd!×mm! (cb!×cb!×cb!×cb!×gm! Int (r4!×cb!))×mm! (cb!×bm! i!)×d9! cb!×mm! (rl!×rl!)
structure Ask where
 fs:dD! Stmt
 bs:aq!
 cs:dD! Int
 ts:dD! mT!
 us:dD! i!
 xs:aq!
 ps:gm! (Str×Str) cb!
noncomputable def zdD(q:Ask)(K:W.Frag):Obs:=(q.fs.map λp=>zjS K p.1,q.bs.map (zmO K),q.cs.map λp=>zo4 K p.1,q.ts.map (λp=>znl K p.1 (p.2.map (·.2))),q.us.map (λp=>zrs K p.1),q.xs.map (z8T K),q.ps.map λp=>z86 K p.1.1 p.1.2)
noncomputable def obsS(q:Ask)(s:Shared):Obs:=zdD q (gat F! (q.fs.map (·.1)++q.ts.map (·.1)++q.us.map (·.1)++q.xs))
noncomputable def valS(q:Ask)(w:World):Obs:=(q.fs.map λp=>zr1 p.1 p.2,q.bs.map (bf! c!),q.cs.map λp=>b! p.2,q.ts.map (λp=>zrI w p.2),q.us.map (λp=>b! (c!,b! p.2)),q.xs.map (bf! c!),q.ps.map λp=>b! (b! p.2,b! p.2))
noncomputable def z6W(tb:String->bm! Builtin)(p:Program)(w:World)(n₀:Nat)(dy:aS!):Nat->pZ!->Thread->bm! pZ!
 | 0,_,_=>none | n+1,s,t=>match W.through t with
  | true=>b! s | false=>match W.stepOk n₀ dy t with
   | false=>none | true=>match W.stepT (denote tb) p w s t with
    | some (s',t')=>z6W tb p w n₀ dy n s' t' | none=>none
noncomputable def zp5(l:d9! Obj):W.BT×Nat:=l.foldl (λa o=>(a.1.ins a.2 o,a.2+1)) (W.BT.nil,0)
noncomputable def zoO(P:Params):W.BT:=(zp5 (W.boot_heap P).objs.toList).1
end Dd
namespace Dd
noncomputable def zuv(q:Ask):aq!:=q.fs.map (·.1)++q.ts.map (·.1)++q.us.map (·.1)++q.xs
noncomputable def zpj(k:Nat)(q:Ask)(s:Shared):mm! FV:=(q.fs.take k).map λp=>zjS (gat F! (zuv q)) p.1
noncomputable def zoc(k:Nat)(q:Ask)(s:Shared):Obs:=zdD {q with fs:=q.fs.drop k} (gat F! (zuv q))
noncomputable def zoZ(k:Nat)(q:Ask):mm! FV:=(q.fs.take k).map λp=>zr1 p.1 p.2
noncomputable def zof(k:Nat)(q:Ask)(w:World):Obs:=jb! ({q with fs:=q.fs.drop k})
theorem zng(k:Nat)(q:Ask)(s:Shared):obsS q s=(zpj k q s++(zoc k q s).1,(zoc k q s).2):=by
 unfold zpj zoc obsS zdD;rw[<- _cr,_ca];rfl
theorem znz(k:Nat)(q:Ask)(w:World):jb! q=(zoZ k q++(zof k q w).1,(zof k q w).2):=by
 unfold zoZ zof valS;rw[<- _cr,_ca]
theorem zdZ{o:bm! pZ!}{f:eC! pZ!}{k:Nat}{q:Ask}{w:World}(h1:o.map (λs=>(f s,zpj k q iB!))=b! (c!,zoZ k q))(h2:o.map (λs=>zoc k q iB!)=b! (zof k q w)):o.map (λs=>(f s,obsS q iB!))=b! (c!,jb! q):=by cases o with
 | none=>cases h1 | some s=>
  simp only[_ag,_y,_br]at h1 h2;simp only[_ag,zng k,znz k,h1.1,h1.2,h2]
end Dd
namespace aY
open Dd
noncomputable def top(i:Nat):Stmt:=PySem.Challenge.pw_drawndown_k21_weights_looked_at_and_told.main.body.getD i (.Pass ⟨0,0,0,0⟩)
noncomputable abbrev z6R:Stmt:=top 22
noncomputable abbrev z68:Stmt:=top 24
noncomputable abbrev kJ:Stmt:=top 29
noncomputable abbrev z5y:Stmt:=top 37
noncomputable abbrev z1C:Stmt:=top 39
noncomputable abbrev z2o:Stmt:=top 41
noncomputable abbrev z8A:Stmt:=top 43
noncomputable abbrev z8y:Stmt:=top 44
noncomputable abbrev vH:Stmt:=top 46
noncomputable abbrev z1s:Stmt:=top 47
noncomputable abbrev z8J:Stmt:=top 48
noncomputable abbrev z8b:Stmt:=top 54
noncomputable abbrev ze5:Stmt:=top 61
noncomputable abbrev z0g:Stmt:=top 72
noncomputable abbrev z7h:Stmt:=top 73
noncomputable abbrev z4v:Stmt:=top 74
noncomputable abbrev z1Z:Stmt:=top 76
noncomputable abbrev z3M:Stmt:=top 77
noncomputable abbrev z1X:Stmt:=top 78
noncomputable abbrev z2J:Stmt:=top 80
noncomputable abbrev z6v:Stmt:=top 81
noncomputable abbrev z64:Stmt:=top 85
noncomputable abbrev z2Q:Stmt:=top 86
noncomputable abbrev z5w:Stmt:=top 88
noncomputable abbrev z0e:Stmt:=top 93
noncomputable abbrev z1W:Stmt:=top 23
noncomputable abbrev z1n:Stmt:=top 38
noncomputable abbrev z47:Stmt:=top 42
noncomputable abbrev z8q:Stmt:=top 49
noncomputable abbrev z5G:Stmt:=top 50
noncomputable abbrev zaw:Stmt:=top 51
noncomputable abbrev z8H:Stmt:=top 52
noncomputable abbrev z41:Stmt:=top 55
noncomputable abbrev z6M:Stmt:=top 75
noncomputable abbrev z5S:Stmt:=top 79
noncomputable abbrev z0i:Stmt:=top 82
noncomputable abbrev z4u:Stmt:=top 83
noncomputable abbrev jG:Stmt:=top 87
noncomputable abbrev z0S:Stmt:=top 89
noncomputable abbrev z1k:Stmt:=top 90
noncomputable abbrev z6A:Stmt:=top 91
noncomputable abbrev z3Y:Stmt:=top 94
noncomputable abbrev zbG:Stmt:=top 26
noncomputable abbrev z60:Stmt:=top 32
noncomputable abbrev z6E:Stmt:=top 60
noncomputable abbrev z8f:Stmt:=top 68
noncomputable abbrev z21:Stmt:=top 84
noncomputable abbrev z4f:Stmt:=top 92
noncomputable abbrev z5A:Stmt:=top 27
noncomputable abbrev z2u:Stmt:=top 33
noncomputable abbrev zaq:Stmt:=top 28
noncomputable abbrev z3U:Stmt:=top 30
noncomputable abbrev z2h:Stmt:=top 34
noncomputable abbrev z2U:Stmt:=top 35
noncomputable abbrev uP:Stmt:=top 56
noncomputable abbrev z1i:Stmt:=top 36
noncomputable abbrev qC:Stmt:=top 40
noncomputable abbrev z4t:Stmt:=top 57
noncomputable abbrev z1g:Stmt:=top 67
noncomputable abbrev zg5:Stmt:=top 58
noncomputable abbrev z2v:Stmt:=top 59
noncomputable abbrev zlr:Stmt:=top 62
noncomputable abbrev z3Z:Stmt:=top 63
noncomputable abbrev z1h:Stmt:=top 64
noncomputable abbrev z1a:Stmt:=top 65
noncomputable abbrev z2T:Stmt:=top 69
noncomputable abbrev z87:Stmt:=top 70
noncomputable abbrev z3N:Stmt:=top 95
noncomputable abbrev z7X:Stmt:=top 96
noncomputable def ze8:mT!:=[("next",mZ!),("least",m0!),(jh!,m1!),(gb!,m2!)]
noncomputable def askQ:Ask:=⟨[Y! "is_whole" z6R, Y! "has_size" z68, Y! "common_of_two" kJ, Y! "together" z5y, Y! "like_places" z1C, Y! "columns_of" z2o, Y! "without" z8A, Y! "sign_at" z8y, Y! "greatest_and_others" vH, Y! "least_place" z1s, Y! "all_but" z8J, Y! "is_rule" z8b, Y! "moved" ze5, Y! "_law_cell_at" z0g, Y! "_law_pot" z7h, Y! "_law_take" z4v, Y! "_law_rules" z1Z, Y! "_law_step" z3M, Y! "_law_ended" z1X, Y! "_law_plain" z2J, Y! "_law_led" z6v, Y! "_law_dot" z64, Y! "_law_whole" z2Q, Y! "_law_gcd" z5w, Y! "_law_kind_of" z0e, Y! "are_wholes" z1W, Y! "lines_times" z1n, Y! "number_of" z47, Y! mZ! z8q, Y! m0! z5G, Y! m1! zaw, Y! m2! z8H, Y! "want_rule" z41, Y! "_law_lot" z6M, Y! "_law_run" z5S, Y! "_law_product" z0i, Y! "_law_back" z4u, Y! "_law_are_whole" jG, Y! "_law_no_rule" z0S, Y! "_law_is_lot" z1k, Y! "_law_odd" z6A, Y! "_law_same" z3Y, Y! "is_lot" zbG, Y! "is_table" z60, Y! "division" z6E, Y! "come_to" z8f, Y! "_law_lines" z21, Y! "_law_bent" z4f, Y! "want_lot" z5A, Y! "want_table" z2u, Y! "common" zaq, Y! "has_ended" z3U, Y! "multiplied" z2h, Y! "one_number" z2U, Y! "want_rule_and_lot" uP, Y! "turned_back" z1i, Y! "growing_products" qC, Y! "want_step" z4t, Y! m3! z1g, Y! "step" zg5, Y! "step_table" z2v, Y! "run" zlr, Y! "tables_of" z3Z, Y! "products_of" z1h, Y! "whole_table" z1a, Y! "lines_back" z2T, Y! m4! z87, Y! "_law_told" z3N, Y! "law" z7X], [l! iA!,l! "abs",l! jh!,l! ia!,l! gE!,l! eo!,l! gF!,l! "len",l! ea!,l! nC!,l! nD!,l! fr!,l! lh!,l! gc!,l! "sum",l! cV!,l! iC!], [(l! "LEAST_SIZE",h! 2),(l! "MOST_SIZE",h! 4)], [Y! "RULES" ze8], [], [l! li!,l! nE!,l! nF!,l! nG!,l! nH!,l! g5!,l! nI!,l! nJ!,l! nK!,l! g6!,l! nL!,l! nM!,l! ji!,l! nN!,l! nO!,l! nP!,l! jj!,l! nQ!], [((l! g5!,l! g5!),c!),iy! ji!,iy! nO!,iy! nP!,iy! jj!,iy! nN!,iy! g6!,iy! nE!,iy! nF!,iy! nJ!,iy! nG!,iy! nL!,iy! nI!,iy! nQ!,iy! nM!,iy! nH!,iy! nK!,iv! g5!,iv! ji!,iv! nO!,iv! nP!,iv! jj!,iv! nN!,((l! g6!,l! g6!),c!),iv! nE!,iv! nF!,iv! nJ!,iv! nG!,iv! nL!,iv! nI!,iv! nQ!,iv! nM!,iv! nH!,iv! nK!,is! g5!,((l! ji!,l! ji!),c!),is! nO!,is! nP!,is! jj!,is! nN!,is! g6!,is! nE!,is! nF!,is! nJ!,is! nG!,is! nL!,is! nI!,is! nQ!,is! nM!,is! nH!,is! nK!,ir! g5!,ir! ji!,ir! nO!,ir! nP!,((l! jj!,l! jj!),c!),ir! nN!,ir! g6!,ir! nE!,ir! nF!,ir! nJ!,ir! nG!,ir! nL!,ir! nI!,ir! nQ!,ir! nM!,ir! nH!,ir! nK!,((l! g5!,l! li!),c!),((l! g6!,l! li!),c!),((l! ji!,l! li!),c!),((l! jj!,l! li!),c!)]⟩
noncomputable def qv:Program:=W.view p0! [96]
noncomputable def looseQ:aq!:=[l! li!,l! g5!,l! ji!,l! nO!,l! nP!,l! jj!,l! nN!,l! g6!,l! nE!,l! nF!,l! nJ!,l! nG!,l! nL!,l! nI!,l! nQ!,l! nM!,l! nH!,l! nK!,l! "LEAST_SIZE",l! "MOST_SIZE",l! "is_whole",l! "are_wholes",l! "has_size",l! "is_lot",l! "want_lot",l! "common",l! "common_of_two",l! "has_ended",l! "is_table",l! "want_table",l! "multiplied",l! "one_number",l! "turned_back",l! "together",l! "lines_times",l! "like_places",l! "growing_products",l! "columns_of",l! "number_of",l! "without",l! "sign_at",l! "greatest_and_others",l! "least_place",l! "all_but",l! mZ!,l! m0!,l! m1!,l! m2!,l! "RULES",l! "is_rule",l! "want_rule",l! "want_rule_and_lot",l! "want_step",l! "step",l! "step_table",l! "division",l! "moved",l! "run",l! "tables_of",l! "products_of",l! "whole_table",l! m3!,l! "come_to",l! "lines_back",l! m4!,l! "_law_cell_at",l! "_law_pot",l! "_law_take",l! "_law_lot",l! "_law_rules",l! "_law_step",l! "_law_ended",l! "_law_run",l! "_law_plain",l! "_law_led",l! "_law_product",l! "_law_back",l! "_law_lines",l! "_law_dot",l! "_law_whole",l! "_law_are_whole",l! "_law_gcd",l! "_law_no_rule",l! "_law_is_lot",l! "_law_odd",l! "_law_bent",l! "_law_kind_of",l! "_law_same",l! "_law_told"]
noncomputable def lvQ:dD! W.WData:=[]
noncomputable def xtQ:eC! nR!:=λs=>W.xlAt qv lvQ s&&W.recOk (W.RowW.records (W.OpenRow.toRowW (W.OpenLaw.row PySem.Challenge.rw_drawndown_k21_weights_looked_at_and_told))) s
theorem zua:∀w:World,W.absHeap (zoO r8!) 11 (j8!).life=j8!:=by
 intro w;kernel_rfl
theorem bsz:∀w:World,((j8!).isNs ma!&&(jD!:rU!).size==0,eb! j8!,(j8!).nsMap ma! "__annotations__")=(c!,11,(b! (w! 6))):=by
 intro w;kernel_rfl
noncomputable def zie(w v:World)(os:OsState):bm! pZ!:=z6W r9! p0! v 11 (b! (w! 6)) 12006 ⟨zoO r8!,11,(j8!).life,jD!,p1!,p2!,os⟩ (W.topStub p0!)
noncomputable def zk0(w:World)(s:W.SharedT):Bool:=W.staticsOk (sM! PySem.Challenge.pw_drawndown_k21_weights_looked_at_and_told.main.body) j8! s.abs.heap&&W.namesBound p0! s.abs.heap&&W.gensDone iB!&&W.laidKept j8! s.abs.heap
noncomputable def seenQ(s:Shared):=W.openSeen qv looseQ (sM! PySem.Challenge.pw_drawndown_k21_weights_looked_at_and_told.main.body) xtQ c! s
theorem zuw{α β γ δ:bL!}(x:α×β×γ×δ):(x.1,x.2.1,x.2.2.1,x.2.2.2)=x:=rfl
noncomputable def znK(s:Shared):=((m5! s).1,(m5! s).2.1,(m5! s).2.2.1,(m5! s).2.2.2)
noncomputable def zo0:=((pK! qv).1,(pK! qv).2.1,(pK! qv).2.2.1,(pK! qv).2.2.2)
theorem ze1(s:Shared):znK s=m5! s:=zuw _
theorem zeh:zo0=pK! qv:=zuw _
set_option maxRecDepth 1000000 in
theorem z9R:ov! (jR! (zie w (jz! r!) os) (zk0 w s,zpj 46 g7! iB!)) (c!,zoZ 46 g7!):=by
 intro w os;kernel_rfl
set_option maxRecDepth 1000000 in
theorem z9N:ov! (jR! (zie w (jz! r!) os) (zoc 46 g7! iB!)) (zof 46 g7! (jz! r!)):=by
 intro w os;kernel_rfl
theorem za0(w:World)(os:OsState):jR! (zie w (jz! r!) os) (zk0 w s,obsS g7! iB!)=b! (c!,valS g7! (jz! r!)):=zdZ (z9R w os) (z9N w os)
set_option maxRecDepth 1000000 in
theorem za2:ov! (jR! (zie w (jz! r!) os) (znK iB!)) zo0:=by
 intro w os;kernel_rfl
theorem zaO(w:World)(os:OsState):jR! (zie w (jz! r!) os) (m5! iB!)=b! (pK! qv):=by
 have h:=za2 w os;simp only[ze1,zeh]at h;exact h
set_option maxRecDepth 1000000 in
theorem zaP:ov! (jR! (zie w (jz! c!) os) (zk0 w s,zpj 46 g7! iB!)) (c!,zoZ 46 g7!):=by
 intro w os;kernel_rfl
set_option maxRecDepth 1000000 in
theorem zbF:ov! (jR! (zie w (jz! c!) os) (zoc 46 g7! iB!)) (zof 46 g7! (jz! c!)):=by
 intro w os;kernel_rfl
theorem zcs(w:World)(os:OsState):jR! (zie w (jz! c!) os) (zk0 w s,obsS g7! iB!)=b! (c!,valS g7! (jz! c!)):=zdZ (zaP w os) (zbF w os)
set_option maxRecDepth 1000000 in
theorem zcV:ov! (jR! (zie w (jz! c!) os) (znK iB!)) zo0:=by
 intro w os;kernel_rfl
theorem zcJ(w:World)(os:OsState):jR! (zie w (jz! c!) os) (m5! iB!)=b! (pK! qv):=by
 have h:=zcV w os;simp only[ze1,zeh]at h;exact h
set_option maxRecDepth 1000000 in
theorem said_:W.OpenLaw.wellSaid PySem.Challenge.rw_drawndown_k21_weights_looked_at_and_told=c!:=by kernel_rfl
end aY
namespace L2
noncomputable abbrev Key:=Sum Int Str
noncomputable def zcH:Key->eC! dR!
 | .inl k,v=>Value.isInt k v | .inr x,v=>Value.isStrOf x v
noncomputable def zvE(w:World):Key->Int
 | .inl k=>hashInt k | .inr x=>hashStr w x
theorem yT:∀{k:Key}{v:Value},zcH k v=c!->(∃i t,k=o3! i/\v=Value.int i t)\/(∃x t,k=Sum.inr x/\v=Value.str x t)
 | .inl i,v,h=>by
  obtain⟨t,e⟩:=Value.isInt_shape h;exact y! (fg! i t e) | .inr x,v,h=>by
  obtain⟨t,e⟩:=Value.isStrOf_shape h;exact Q! (fg! x t e)
theorem z6S(x:Str)(t:Tok):zcH (Q! x) (.str x t)=c!:=by simp[zcH,Value.isStrOf]
theorem zqD(a b:Int):bw! ((o3! a:Key)=o3! b)=(a==b):=by
 by_cases e:a=b;·subst e;simp
 ·rw[_ap (λq=>e (Sum.inl.inj q))];exact (_bK.mpr e).symm
theorem zqL(a b:Str):bw! ((Sum.inr a:Key)=Sum.inr b)=ki! a b:=by
 by_cases e:a=b;·simp
 ·rw[_ap (λq=>e (Sum.inr.inj q)),_ap e]
theorem zp0(a:Int)(b:Str):bw! ((o3! a:Key)=Sum.inr b)=r!:=_ap (λq=>nomatch q)
theorem zp7(a:Str)(b:Int):bw! ((Sum.inr a:Key)=o3! b)=r!:=_ap (λq=>nomatch q)
noncomputable def xW(prog:Program)(w:World):PySem.KeyKind m6! w Key where
 is:=zcH;hash:=zvE w;inj:=λv a b ha hb=>by
  rcases yT ha with⟨i,t,rfl,rfl⟩ | ⟨x,t,rfl,rfl⟩
  ·rcases yT hb with⟨j,u,rfl,e⟩ | ⟨y,u,rfl,e⟩;·injection e with e1 _;rw[e1]
   ·exact nomatch e
  ·rcases yT hb with⟨j,u,rfl,e⟩ | ⟨y,u,rfl,e⟩;·exact nomatch e
   ·injection e with e1 _;rw[e1]
 byValue:=λk v h=>by rcases yT h with⟨i,t,rfl,rfl⟩ | ⟨x,t,rfl,rfl⟩<;>rfl
 pyHash:=λhv h=>by
  rcases yT hv with⟨i,t,rfl,rfl⟩ | ⟨x,t,rfl,rfl⟩;·exact wpAny_pyHash_int h
  ·exact wpAny_pyHash_str h
 eqBool:=λhu hv h=>by
  rcases yT hu with⟨i,t,rfl,rfl⟩ | ⟨x,t,rfl,rfl⟩
  ·rcases yT hv with⟨j,u,rfl,rfl⟩ | ⟨y,u,rfl,rfl⟩;·rw[zqD]at h;exact _cc h
   ·rw[zp0]at h;exact SeqAt.EqAt.int_str i t y u _ _ _ _ h
  ·rcases yT hv with⟨j,u,rfl,rfl⟩ | ⟨y,u,rfl,rfl⟩;·rw[zp7]at h;exact SeqAt.EqAt.str_int x t j u _ _ _ _ h
   ·rw[zqL]at h;exact wpAny_eqBool_str h
 «strs» := λk x t v h=>by
  rcases yT h with⟨i,u,rfl,e⟩ | ⟨y,u,rfl,e⟩;·exact nomatch e
  ·injection e with e1 _;subst e1;cases v<;>rfl
theorem z7V(prog:Program)(w:World)(k:Key)(v:Value):(xW m6! w).is k v=zcH k v:=rfl
theorem zch(prog:Program)(w:World)(x:Str)(t:Tok):(xW m6! w).is (Q! x) (.str x t)=c!:=z6S x t
inductive V where | non | bl (b:Bool) | int (i:Int) | str (x:Str) | byt (b:Array UInt8) | flt (b:UInt64) | ref (a:Addr) | ty (n:String) deriving DecidableEq
def ww:V->dR!->g!
 | .non,u=>u=Value.none | .bl b,u=>u=Value.bool b | .int i,u=>∃t,u=Value.int i t | .str x,u=>∃t,u=Value.str x t | .byt b,u=>∃t,u=Value.bytes b t | .flt b,u=>∃t,u=Value.float b t | .ref a,u=>u=lj! a | .ty n,u=>u=Value.type n
abbrev xl:aG!->bU!->g!:=Paired ww
theorem xl.length(r:i7!):x!=iD!:=Paired.length r
theorem xl.get:∀{xs:List V}{us:List Value}{i:Nat}{x:V},i7!->aj! xs x->∃u,aj! us u/\ww x u
 | _,_,_,_,.nil,e=>by cases e | _,_,0,_,.cons r _,e=>by simp at e;subst e;exact aC! _ r | _,_,i+1,x,.cons _ t,e=>by
  obtain⟨u,h1,h2⟩:=xl.get t (by exact e);exact⟨u,by exact h1,h2⟩
theorem xl.set(r:ww x u):∀{xs:List V}{us:List Value}(i:Nat),i7!->xl (iE! i x) (us.set i u)
 | _,_,_,.nil=>cu! | _,_,0,.cons _ t=>eI! r t | _,_,i+1,.cons q t=>eI! q (xl.set r i t)
theorem xl.append:∀{xs ys:List V}{us ws:List Value},i7!->xl ys ws->xl (xs++ys) (us++ws)
 | _,_,_,_,.nil,s=>s | _,_,_,_,.cons r t,s=>eI! r (xl.append t s)
theorem xl.take:∀{xs:List V}{us:List Value}(n:Nat),i7!->xl (m7! n) (us.take n)
 | _,_,0,_=>cu! | _,_,_+1,.nil=>cu! | _,_,n+1,.cons r t=>eI! r (xl.take n t)
theorem xl.drop:∀{xs:List V}{us:List Value}(n:Nat),i7!->xl (lk! n) (us.drop n)
 | _,_,0,r=>r | _,_,_+1,.nil=>cu! | _,_,n+1,.cons _ t=>xl.drop n t
def ztP:bm! V->aS!->g!
 | some v,some u=>ww v u | none,none=>True | _,_=>False
def KV: gm! κ V->gm! κ dR!->g!:=Paired λ(p:κ×V)(q:κ×Value)=>p.1=q.1/\ww p.2 q.2
noncomputable def kV:Key->V
 | .inl i=>aa! | .inr x=>aY!
inductive HO where | lst (xs:aG!) | tup (xs:aG!) | dK (ah:gm! Key V) | dT (ah:gm! (d9! Key) V) | set (S:eC! Int)(n:Nat) | ins (C dx:Addr)(fs:dD! V) | own (x:Addr) | xd (fs:dD! V) | met (f x:Addr) | rng (lo hi:Int) | frz (o:Obj)(u:HO) | tbl (ps:cz!) | ext (φ:Heap->g!)
abbrev Hp:=lg!->bm! HO
noncomputable def upd(H:Hp)(a:Addr)(o:HO):Hp:=λb=>ai! b a (b! o) (H b)
theorem yu: upd H a o a=b! o:=by unfold upd;rw[gU!]
theorem zJ(h:b≠a):upd H a o b=H b:=by unfold upd;rw[_q h]
theorem zml: upd (g4! o) a u=g4! u:=by funext b;unfold upd;split<;>rfl
theorem xo{H:Hp} (h:ci! o)(h':e8!):a≠b:=by intro e;subst e;rw[h]at h';cases h'
def zfo(h:Heap)(a:Addr)(items:cz!):g!:=∃o,cG! a/\gd!=dC!/\o.dict=a!/\∃n,ib!=.seq g8! n
theorem zfo.tup{h:Heap}{a:Addr}{items:cz!}(x:zfo h a g8!):IsTup h a g8!:=let ⟨o,e,c,_,r⟩:=x;ck! o e c r
theorem zfo.new(h:Heap)(items:cz!):zfo (h.push {cls:=dC!,data:=.seq g8!}) jk! g8!:=⟨_,g2!,rfl,rfl,_,rfl⟩
theorem zfo.lt(x:zfo h a g8!):a<jk!:=x.tup.lt
section
variable (P:Program)(w:World)
def jA(H:Hp)(h:Heap)(a:Addr):HO->g!
 | .lst xs=>x!<=aW!/\∃(af:List Value)(n:Nat),xl xs af/\eu! a ({cls:=db!,data:=oC! n}) | .tup xs=>x!<=aW!/\∃af:List Value,xl xs af/\zfo h a fs! | .dK ah=>ah.length<=aW!/\(a==sysModules)=r!/\∃vs,KV ah vs/\h.DictOf (xW P w) a vs | .dT ah=>ah.length<=aW!/\(a==sysModules)=r!/\∃xs:List (List Key×Addr×Value), p3! (λ(p:List Key×V)(q:List Key×Addr×Value)=>p.1=q.1/\H q.2.1=b! (p! (p.1.map kV))/\ww p.2 q.2.2) ah xs/\ ∃o es ep,cG! a/\o.ExactDict/\ib!=.dict es ep/\es.toList=nS! (entryOfKey (tupleKind (xW P w)))/\(nS! (·.1)).Nodup | .set S n=>h.SetOf (intKind P w) a S n | .ins C dx fs=>H dx=b! (.own a)/\dv! fs.length/\dx≠a/\eu! a (W.instObj C dx)/\ ∃mA,h.Ns1 dx mA/\(∀f,ztP (fs.lookup f) (mA f))/\PySem.Within mA (fs.map (·.1)) | .own _=>∃o,cG! a | .xd fs=>∃mA,h.Ns1 a mA/\∀f,ztP (fs.lookup f) (mA f) | .rng lo hi=>∃t u v,eu! a ({cls:=lS!,data:=eJ! #[b7! lo,bx! hi u,bx! 1 v]}) | .frz o u=>cG! a/\jA H h a u | .tbl ps=>eu! a ({cls:=X!,data:=eJ! ps}) | .met f x=>eu! a (W.methodObj fj! (w! x)) | .ext φ=>φ h/\(∃o,cG! a)/\∀h1 h2:Heap,φ h1->(∀o,h1.get? a=b! o->h2.get? a=b! o)->φ h2
def HOk(H:Hp)(h:Heap):g!:=∀a o,ci! o->jA P w H h a o
end
section
variable {P:Program}{w:World}{H H':Hp}{h h':Heap}{a:Addr}{o:HO}
theorem jA.lt(x:jA P w H h a o):a<jk!:=by cases o with
 | lst xs=>obtain⟨_,_,_,_,e⟩:=x;exact c5! | tup xs=>obtain⟨_,_,_,p⟩:=x;exact p.lt | dK ah=>obtain⟨_,_,_,_,o,_,_,e,_⟩:=x;exact c5! | dT ah=>obtain⟨_,_,_,_,o,_,_,e,_⟩:=x;exact c5! | set S n=>obtain⟨o,_,_,_,e,_⟩:=x;exact c5! | ins C dx fs=>obtain⟨_,_,_,e,_⟩:=x;exact c5! | own y=>obtain⟨_,e⟩:=x;exact c5! | xd fs=>obtain⟨_,⟨_,_,_,e,_⟩,_⟩:=x;exact c5! | rng lo hi=>obtain⟨_,_,_,e⟩:=x;exact c5! | frz ob u=>obtain⟨e,_⟩:=x;exact c5! | tbl ps=>exact _r (x) | met f y=>exact _r (x) | ext φ=>obtain⟨_,⟨_,e⟩,_⟩:=x;exact c5!
theorem Paired.mapP: ∀{l₁:List α}{l₂:List β},p3! F l₁ l₂->(∀a b,F a b->G a b)->p3! G l₁ l₂
 | _,_,.nil,_=>cu! | _,_,.cons r t,f=>eI! (f _ _ r) (Paired.mapP t f)
theorem jA.stay(x:jA P w H h a o)(k:∀b u,(b=a\/cR! (.own a))->eu! b u->gj! b u) (ho:∀b,cR! (.own a)->H' b=b! (.own a))(ht:∀b xs,cR! ah!->H' b=b! ah!):jA P w H' h' a o:=by induction o with
 | lst xs=>obtain⟨z,af,n,r,e⟩:=x;exact⟨z,af,n,r,k _ _ cZ! e⟩ | tup xs=>obtain⟨z,af,r,ob,e,c⟩:=x;exact⟨z,af,r,ob,k _ _ cZ! e,c⟩ | dK ah=>obtain⟨z,y,vs,r,ob,es,ep,e,c⟩:=x;exact⟨z,y,vs,r,ob,es,ep,k _ _ cZ! e,c⟩ | dT ah=>
  obtain⟨z,y,xs,r,ob,es,ep,e,c⟩:=x;exact⟨z,y,xs,Paired.mapP r λp q z=>⟨z.1,ht _ _ z.2.1,z.2.2⟩,ob,es,ep,k _ _ cZ! e,c⟩ | set S n=>obtain⟨ob,es,ep,t,e,c⟩:=x;exact⟨ob,es,ep,t,k _ _ cZ! e,c⟩ | ins C dx fs=>
  obtain⟨d,z,ne,e,mA,⟨od,es,ep,e2,c⟩,r⟩:=x;exact⟨ho _ d,z,ne,k _ _ cZ! e,mA,⟨od,es,ep,k _ _ (Q! d) e2,c⟩,r⟩ | own y=>obtain⟨ob,e⟩:=x;exact⟨ob,k _ _ cZ! e⟩ | xd fs=>obtain⟨mA,⟨od,es,ep,e,c⟩,r⟩:=x;exact aV! mA ⟨od,es,ep,k _ _ cZ! e,c⟩ r | rng lo hi=>obtain⟨t,u,v,e⟩:=x;exact⟨t,u,v,k _ _ cZ! e⟩ | frz ob u ih=>obtain⟨e,q⟩:=x;exact⟨k _ _ cZ! e,ih q⟩ | tbl ps=> exact k a _ cZ! x | met f y=> exact k a _ cZ! x | ext φ=>obtain⟨p,⟨o,e⟩,st⟩:=x;exact⟨st _ _ p λo q=>k _ _ cZ! q,⟨o,k _ _ cZ! e⟩,st⟩
theorem HOk.lt(x:HOk P w H h)(e:ci! o):a<jk!:=(x a o e).lt
theorem HOk.fresh(x:HOk P w H h)(e:jk!<=a):H a=a!:=by cases q:H a with
 | none=>rfl | some u=>exact kT! (_j (x.lt q) e) _
theorem HOk.kept(x:HOk P w H h)(k:∀b u,eu! b u->gj! b u):HOk P w H h':=λa o e=> (x a o e).stay (λb u _ q=>k b u q) (λ_ q=>q) λ_ _ q=>q
theorem HOk.laid(x:HOk P w H h)(k:∀b u,eu! b u->gj! b u)(hp:jk!<=a)(new:jA P w (g4! o) h' a o):HOk P w (g4! o) h':=λb u e=>by
 have hn:=x.fresh hp;by_cases hb:b=a;·subst hb;rw[yu]at e;cases e;exact new
 ·rw[zJ hb]at e;exact (x b u e).stay (λc v _ q=>k c v q) (λc q=>by rw[zJ (xo q hn)];exact q) λc xs q=>by rw[zJ (xo q hn)];exact q
end
def Rd(H:Hp)(a:Addr)(u:HO):g!:=ci! u\/∃o,ci! (d2! u)
theorem Rd.ok(r:Rd H a u)(x:HOk P w H h):jA P w H h a u:=by
 rcases r with r | ⟨o,r⟩;·exact x a u r
 ·obtain⟨_,q⟩:=x a _ r;exact q
def Mut:bm! HO->g!
 | some (.lst _)=>True | some (.dK _)=>True | some (.dT _)=>True | some (.set _ _)=>True | some (.ins _ _ _)=>True | some (.ext _)=>True | _=>False
section
variable {P:Program}{w:World}{H:Hp}{h h':Heap}{x e:Addr}{o':HO}
theorem HOk.write(ok:HOk P w H h)(mu:Mut (H x))(he:e=x\/H e=b! (.own x))(k:∀b u,b≠e->eu! b u->gj! b u)(dU:∃u,gj! e u) (new:jA P w (hS! x o') h' x o'):HOk P w (hS! x o') h':=λb u q=>by
 have eA:∀c y,H c=b! (.own y)->c≠x:=λc y r z=>by subst z;rw[r]at mu;exact mu
 by_cases hb:b=x;·subst hb;rw[yu]at q;cases q;exact new
 ·rw[zJ hb]at q;by_cases dC:b=e
  ·have q':cR! (.own x):=by
    rcases he with z | z;·exact bS! (dC.trans z) hb
    ·rw[dC];exact z
   rw[q]at q';cases q';obtain⟨v,hv⟩:=dU;exact⟨v,by rw[dC];exact hv⟩
  ·refine (ok b u q).stay (λc v hc r=>k c v ?_ r) (λc r=>by rw[zJ (eA c b r)];exact r) λc xs r=>by rw[zJ ((λc xs r z=>by subst z;rw[r]at mu;exact mu) c xs r)];exact r
   rcases hc with rfl | hc;·exact dC
   ·rintro rfl;rcases he with z | z;·exact eA c b hc z
    ·rw[hc]at z;cases z;exact hb rfl
end
structure Un(fs ex:an!)(H H':Hp)(h h':Heap):g! where
 keep:bG! (cG! b->e8!->b∉fs->b∉ex->dw! b)
 slot:bG! (cG! b->e8!->b∈fs->b∉ex->∃sl,gj! b ({o with slots:=sl}))
 free:bG! (cG! b->e8!->b∉ex->f3! b)
 there:bG! (cG! b->b∉ex->∃o',gj! b o')
 tups:∀b xs,cR! ah!->H' b=b! ah!
 frzs:∀b o u,cR! (d2! u)->H' b=b! (d2! u)
 tbls:∀b ps,cR! (.tbl ps)->∃more,H' b=b! (.tbl (ps++more))
section
variable {fs dW ex pL:an!}{H H1 H2:Hp}{h h1 h2 h':Heap}{a x e:Addr}{o:HO}
theorem Un.any(u:Un fs ex H H1 h h1) (q:eu! b ob)(n:e8!)(hx:b∉ex):∃sl,h1.get? b=b! ({ob with slots:=sl}):=by
 by_cases hb:b∈fs;·exact u.slot b ob q n hb hx
 ·exact⟨ob.slots,u.keep b ob q n hb hx⟩
theorem Un.kept(k:∀b u,eu! b u->gj! b u):Un fs ex H H h h':= ⟨λb ob q _ _ _=>k b ob q,λb ob q _ _ _=>⟨ob.slots,k b ob q⟩,λ_ _ _ n _=>n,λb ob q _=>⟨ob,k b ob q⟩,λ_ _ q=>q,λ_ _ _ q=>q,λ_ ps q=>⟨#[],by rw[q];rfl⟩⟩
theorem Un.refl:Un fs ex H H h h:=Un.kept λ_ _ q=>q
theorem Un.laid(k:∀b u,eu! b u->gj! b u)(hp:jk!<=a)(hn:H a=a!):Un fs ex H (g4! o) h h' where
 keep:=λb u q _ _ _=>k b u q;slot:=λb u q _ _ _=>⟨u.slots,k b u q⟩;free:=λb u q n _=>by rw[zJ (_D (_j (_r q) hp))];exact n
 there:=λb u q _=>⟨u,k b u q⟩;tups:=λb xs q=>by rw[zJ (xo q hn)];exact q
 frzs:=λb u xs q=>by rw[zJ (xo q hn)];exact q
 tbls:=λb ps q=>⟨#[],by rw[zJ (xo q hn),q];rfl⟩
theorem Un.write(mu:Mut (H x))(he:e=x\/H e=b! (.own x))(k:∀b u,b≠e->eu! b u->gj! b u)(dU:∃u,gj! e u):Un fs ex H (hS! x o) h h':=by
 have hx:∀b,e8!->b≠x:=λb n z=>by subst z;rw[n]at mu;exact mu
 have hb:∀b,e8!->b≠e:=λb n z=>by
  subst z;rcases he with r | r;·exact hx b n r
  ·rw[n]at r;cases r
 have hm:∀b u,cR! u->¬ Mut (b! u)->b≠x:=λb u q nm z=>by subst z;rw[q]at mu;exact nm mu
 refine⟨λb u q n _ _=>k b u (hb b n) q,λb u q n _ _=>⟨u.slots,k b u (hb b n) q⟩,λb u q n _=>by rw[zJ (hx b n)];exact n,λb u q _=>?_, λb xs q=>by rw[zJ (hm b _ q λz=>z)];exact q,λb u xs q=>by rw[zJ (hm b _ q λz=>z)];exact q,λb ps q=>⟨#[],by rw[zJ (hm b _ q λz=>z),q];rfl⟩⟩;by_cases dC:b=e;·subst dC;exact dU
 ·exact⟨u,k b u dC q⟩
end
noncomputable def trk(h:Heap)(H:Hp):an!:=fO! (mb! jk!) (λa=>iF! (H a))
noncomputable def zoe(h:Heap)(H:Hp):Heap:=W.hideAll h (trk h H)
theorem zfx(h:Heap)(H:Hp):eb! (zoe h H)=jk!:=W.hideAll_size _ _
theorem zjq(e:cG! b)(n:e8!):e6! (zoe h H) b o:= W.hideAll_get _ e λhm=>by
  have q := (_bp.mp hm).2;rw[n]at q;cases q
theorem zo7(e:e6! (zoe h H) b o):cG! b/\e8!:=by
 have e' := W.of_hideAll (trk h H) e;refine as! e' ?_;cases q:H b with
 | none=>rfl | some x=>
  have z:(zoe h H).get? b=a!:=W.hideAll_none (trk h H) (_bp.mpr ⟨_aN.mpr (_r e'),by simp[q]⟩);rw[z]at e;cases e
noncomputable def znv(g h:Heap)(L:Addr):de!:=rR! jk! (λa=>am! (a=L\/ip! (g.get? a)) a! ((pY! a).map λo=>(a,o)))
noncomputable def jC(g h:Heap)(L d:Addr):de!:=fO! (znv g h L) (λp=>cK! p.1 d)
structure Mod(K:W.Frag)(mg:Str->aS!)(base:Heap):g! where
 kin:K.In O!
 glob:sp! mg
 blt:∃mb,base.Ns builtinsNs mb/\∀x:Str,lT! x->mb x=ll! x
 nolimit:base.NoLimit
structure Cx where
 prog:Program
 w:World
 K:W.Frag
 mg:Str->aS!
 base:Heap
 A:Around
 N:aq!
 s₀:Shared
 H₀:Hp
 env:Env
 outer:mH!
 stack:mH!
 ex:an!
 fn:eC! Str
 calm:Bool
 pn:de!
 xe:bX!
noncomputable def frs(l:mH!):an!:=l.filterMap (·.frame)
noncomputable abbrev Cx.fs(X:Cx):an!:=frs kz!
def Vis(sc:Scope)(x:Str):g!:=oy!=b! o4!\/oy!=ds!\/oy!=b! bT!
def Loc(sc:Scope)(x:Str):g!:=oy!=b! o4!\/oy!=ds!
def zv7(env:Env)(h:Heap)(m:Str->aS!)(x:Str)(u:Value):g!:= (sH! x=b! o4!/\m x=b! u)\/((sH! x=ds!\/sH! x=b! bT!)/\∃c,env.cells.lookup x=b! c/\h.IsCell c (b! u))
structure Cx.Ok(X:Cx):g! where
 mod:Mod X.K fu! fb!
 kind:X.env.scope.kind=r7!
 glob:X.env.globals=ma!
 blt:X.env.builtins=builtinsNs
 above:X.s₀.heap.objs.size<=jS!
 inj:∀x y c,gM! x c->gM! y c->x=y
 has:∀x,(fP! x=ds!\/fP! x=b! bT!)->∃c,gM! x c
 cab:∀x c,hn! x->gM! x c->X.s₀.heap.objs.size<=c
 hd:b2!->X.A.handled=a!
 frames:X.A.frames=b! jl!
 stk:jl!=kz!\/(jl!=aX!::kz!/\X.env.frame=b! jS!)
 exf:∀b∈X.ex,iU! b/\∀x c,gM! x c->c≠b
 bs:bG! (rV!=b! o->rK!=b! o/\X.H₀ b=a!)
 bsz:X.base.objs.size<=X.s₀.heap.objs.size
 noex:bG! (rV!=b! o->b∉lm!)
 exfs:∀b∈X.ex,b∉jm!
 funs:X.s₀.heap.FunFrames fb! kz!
 frf:∀b∈X.fs,X.H₀ b=a!
structure Inv(X:Cx)(ae:de!)(O:mm! V)(H:Hp)(s:Shared):g! where
 ok:X.Ok
 os:s.os=X.s₀.os
 bare:rB! s.gens
 base:Un jm! lm! X.H₀ H X.s₀.heap F!
 loc:∃m,s.heap.Ns jS! m/\∀(i:Nat)(x:Str)(v:V),gr! x->aj! O bP!->sy! x->∃u,ww v u/\zv7 aX! F! m x u
 cell:∀x c,gM! x c->∃v,s.heap.IsCell c v
 free:H jS!=a!
 freeC:∀x c,gM! x c->H c=a!
 pin:∀p∈iG!++ae,fU! p.1 p.2/\H p.1=a!/\iU! p.1/\p.1∉jm!/\∀v,p.2.data≠.cell v
 hok:HOk aT! X.w H F!
 len:p4!=X.N.length
section
variable {X:Cx}{ae:de!}{O:mm! V}{H H':Hp}{s:Shared}{h':Heap}
theorem Cx.Ok.nofr(ok:X.Ok) (e:rV!=b! o):b∉jm!:=λhb=>by
 have:=(ok.funs.mem hb).1;rw[e]at this;cases this
theorem Inv.bs(I:K!):bG! (rV!=b! o->dm! b/\e8!):=gG! ⟨p5! b o (I.ok.bs b o e).1 (I.ok.bs b o e).2 (I.ok.nofr e) (I.ok.noex b o e),rA! o (I.ok.bs b o e).1 (I.ok.bs b o e).2 (I.ok.noex b o e)⟩
theorem Inv.bk(I:K!):bG! (rV!=b! o->dm! b):=gG! (I.bs b o e).1
theorem Inv.mod(I:K!):Mod X.K fu! fb!:=I.ok.mod
theorem Inv.kIn(I:K!):X.K.In F!:=I.ok.mod.kin.keeps I.bk
theorem Inv.fr(I:K!):∃m,Fr fb! jS! F! m:= let ⟨m,hn,_⟩:=I.loc;⟨m,hn,I.bk,_H I.ok.bsz nT!⟩
theorem Inv.lt(I:K!):jS!<at!:=let ⟨_,hn,_⟩:=I.loc;hn.lt
theorem Inv.sz(I:K!):X.s₀.heap.objs.size<=at!:=_H nT! (_bh I.lt)
theorem Inv.nofs(I:K!){a:Addr}(h:at!<=a):a∉jm!:=λhb=>by
 obtain⟨_,o,ho,_⟩:=I.ok.funs.mem hb;exact kT! (_j (_r ho) (_H I.sz h)) _
theorem Inv.cne(I:K!):∀x c,gM! x c->iU! c:=λx c e z=>by
 obtain⟨v,o,ho,hd⟩:=nz! x e;obtain⟨m,⟨o',es,ep,bY,gC,_⟩,_⟩:=I.loc;rw[z,bY]at ho;cases ho;rw[gC]at hd;cases hd
theorem Inv.funs(I:K!):s.heap.FunFrames fb! kz!:=(show ∀(l:List Env),(∀b∈frs l,b∈jm!)->X.s₀.heap.FunFrames fb! l->s.heap.FunFrames fb! l from by
  intro l;induction l with
  | nil=>intro _ _;trivial | cons env r ih=>
   intro hs hl;obtain⟨hk,⟨L,o,hf,hn,ho,hd⟩,hr⟩:=hl;have hL := hs L (by unfold frs;rw[_bL,hf];exact _aj);obtain⟨sl,e⟩:=p6! L o ho (I.ok.frf L hL) hL (λz=>I.ok.exfs L z hL);exact⟨hk,⟨L,_,hf,hn,e,hd⟩,ih (cl! (hs b (by unfold frs;rw[_bL,hf];exact _K _ hb))) hr⟩) kz! (λ_ hb=>hb) I.ok.funs
theorem Inv.stack(I:K!):s.heap.FunFrames fb! jl!:=by
 rcases I.ok.stk with e | ⟨e,hf⟩;·rw[e];exact I.funs
 ·rw[e];obtain⟨m,hn,_⟩:=I.loc;exact .cons (by rw[I.ok.kind];decide) hf hn (Heap.get?_none_of_le (_H I.ok.bsz nT!)) I.funs
theorem Inv.stkSub(I:K!):∀b∈frs jl!,b∈jS!::jm!:=cl! (by
 rcases I.ok.stk with e | ⟨e,hf⟩;·rw[e]at hb;exact _K _ hb
 ·rw[e]at hb;unfold frs at hb;rw[_bL,hf]at hb;exact hb)
theorem Inv.stkFree(I:K!):∀b∈frs jl!,e8!:=cl! (by
 rcases eK! (I.stkSub b hb) with e | hb;·rw[e];exact I.free
 ·obtain⟨_,o,ho,_⟩:=I.ok.funs.mem hb;exact rA! o ho (I.ok.frf b hb) (λz=>I.ok.exfs b z hb))
theorem Inv.step{g':rU!}{t':Nat}{d':Drawn}{ch:an!}(I:K!) (cQ:∀b∈ch,(b∈lm!\/X.s₀.heap.objs.size<=b)/\iU! b/\(∀x c,gM! x c->c≠b)/\∀p∈iG!++ae,p.1≠b) (keep:bG! (iU! b->b∉jm!->b∉ch->dm! b->e8!->dw! b)) (slot:bG! (iU! b->b∈jm!->b∉ch->dm! b->e8!->∃sl,gj! b ({o with slots:=sl})))(free:bG! (b∉ch->dm! b->e8!->f3! b)) (there:bG! (b∉ch->dm! b->∃o',gj! b o')) (tups:∀b xs,cR! ah!->H' b=b! ah!)(frzs:∀b o u,cR! (d2! u)->H' b=b! (d2! u))(tbls:∀b ps,cR! (.tbl ps)->∃more,H' b=b! (.tbl (ps++more))) (ns:∀m,s.heap.Ns jS! m->h'.Ns jS! m)(hok:HOk aT! X.w H' h')(hg:rB! g'): cI! H' ({s with heap:=h',gens:=g',drawn:=d',toks:=t'}):=by
 have dX:bG! (rK!=b! o->iU! b):=gG! (_D (_j c5! nT!));have fU:bG! (rK!=b! o->b∉lm!->b∉ch):=λb o e hx hb=>by
  rcases (cQ b hb).1 with z | z;·exact hx z
  ·exact kT! (_j c5! z) _
 have dc:∀x c,gM! x c->∀v,s.heap.IsCell c v->h'.IsCell c v:=λx c e v ⟨o,ho,hd⟩=>by
  have eD := λz=>(cQ c z).2.2.1 x c e rfl;by_cases hc:c∈jm!
  ·obtain⟨sl,q⟩:=slot c o (I.cne x c e) hc eD ho (I.freeC x c e);exact bM! q hd
  ·exact cr! (keep c o (I.cne x c e) hc eD ho (I.freeC x c e)) hd
 refine⟨m8!,jT!,hg,⟨p7! (keep b o (dX b o e) hb (fU b o e hx) (p5! b o e n hb hx) (rA! o e n hx)),p7! ?_,λb o e n hx=>?_,λb o e hx=>?_,λb xs e=>tups b xs (I.base.tups b xs e),λb o xs e=>frzs b o xs (I.base.frzs b o xs e),λb ps e=>?_⟩,?_,λx c e=>?_,?_,λx c e=>?_,bq! ?_,hok,ln!⟩
 ·obtain⟨sl,e1⟩:=p6! b o e n hb hx;obtain⟨iR,e2⟩:=slot b _ (dX b o e) hb (fU b o e hx) e1 (rA! o e n hx);exact as! iR e2
 ·obtain⟨o',e1⟩:=oG! o e hx;exact free b o' (fU b o e hx) e1 (rA! o e n hx)
 ·obtain⟨o',e1⟩:=oG! o e hx;exact there b o' (fU b o e hx) e1
 ·obtain⟨m1,e1⟩:=I.base.tbls b ps e;obtain⟨m2,e2⟩:=tbls b _ e1;exact⟨m1++m2,by rw[e2,Array.append_assoc]⟩
 ·obtain⟨m,hn,hl⟩:=I.loc;refine⟨m,ns m hn,λi x v e1 e2 e3=>?_⟩;obtain⟨u,r,l⟩:=hl i x v e1 e2 e3;refine aV! u r ?_;rcases l with l | ⟨k,c,e,z⟩;·exact y! l
  ·exact Q! ⟨k,c,e,dc x c e _ z⟩
 ·obtain⟨v,z⟩:=nz! x e;exact⟨v,dc x c e v z⟩
 ·obtain⟨m,⟨o,_,_,ho,_⟩,_⟩:=I.loc;exact free _ o (λz=>(cQ _ z).2.1 rfl) ho iH!
 ·obtain⟨v,o,ho,hd⟩:=nz! x e;exact free c o (λz=>(cQ c z).2.2.1 x c e rfl) ho (I.freeC x c e)
 ·obtain⟨e,n,ne,nf,d⟩:=k8! hp;have eD := λz=>(cQ p.1 z).2.2.2 p hp rfl;exact⟨keep p.1 p.2 ne nf eD e n,free p.1 p.2 eD e n,ne,nf,d⟩
theorem Inv.un(I:K!)(u:Un jm! [] H H' F! h')(hok:HOk aT! X.w H' h'):cI! H' ({s with heap:=h',toks:=t'}):=by
 obtain⟨m,⟨o,es,ep,ho,r⟩,_⟩:=id mc!;obtain⟨sl,hL⟩:=u.any ho iH! (by simp);exact I.step (ch:=[]) (λ_ z=>nomatch z) (λb o _ hb _ e n=>u.keep b o e n hb (by simp)) (λb o _ hb _ e n=>u.slot b o e n hb (by simp)) (λb o _ e n=>u.free b o e n (by simp)) (λb o _ e=>u.there b o e (by simp)) u.tups u.frzs u.tbls (λm' hm=>by
  obtain⟨o',gD,gE,bY,r'⟩:=hm;rw[ho]at bY;cases bY;exact⟨_,gD,gE,hL,r'⟩) hok I.bare
theorem Inv.call(I:K!)(u:Un (frs jl!) ch H H' F! h')(hok:HOk aT! X.w H' h')(hg:rB! g') (cQ:∀b∈ch,(b∈lm!\/X.s₀.heap.objs.size<=b)/\iU! b/\(∀x c,gM! x c->c≠b)/\∀p∈iG!++ae,p.1≠b): cI! H' ({s with heap:=h',gens:=g',drawn:=d',toks:=t'}):=by
 obtain⟨m,⟨o,es,ep,ho,r⟩,_⟩:=id mc!;obtain⟨sl,hL⟩:=u.any ho iH! λz=>(cQ _ z).2.1 rfl;exact I.step cQ (λb o hL hb hc e n=>u.keep b o e n (λz=>(eK! (I.stkSub b z)).elim hL hb) hc) (λb o _ _ hc e n=>u.any e n hc) (λb o hc e n=>u.free b o e n hc) (λb o hc e=>u.there b o e hc) u.tups u.frzs u.tbls (λm' hm=>by
  obtain⟨o',gD,gE,bY,r'⟩:=hm;rw[ho]at bY;cases bY;exact⟨_,gD,gE,hL,r'⟩) hok hg
theorem Inv.turned(I:K!)(k:bG! (b≠it->dm! b->dw! b))(hn:H it=a!)(hL:iU! it) (h1:it∈lm!\/X.s₀.heap.objs.size<=it)(h2:∀x c,gM! x c->c≠it)(h3:∀p∈iG!++ae,p.1≠it):lL! ({s with heap:=h',toks:=t'}):=by
 have eE:∀b u,cR! u->b≠it:=λb u e z=>by rw[z,hn]at e;cases e
 refine I.step (ch:=[it]) (cl! ?_) (λb o _ _ hc e _=>k b o (λz=>hc (by simp[z])) e) (λb o _ _ hc e _=>⟨o.slots,k b o (λz=>hc (by simp[z])) e⟩) (λ_ _ _ _ n=>n) (λb o hc e=>⟨o,k b o (λz=>hc (by simp[z])) e⟩) (λ_ _ e=>e) (λ_ _ _ e=>e) (λb ps e=>⟨#[],by rw[e];rfl⟩) (λm hm=>?_) (λb u e=>?_) I.bare
 ·have e:b=it:=by simpa using hb
  subst e;exact ck! h1 hL h2 h3
 ·obtain⟨o,es,ep,ho,r⟩:=hm;exact⟨o,es,ep,k _ o (_bT hL) ho,r⟩
 ·refine (nU! b u e).stay (λc v hc q=>k c v ?_ q) (λ_ q=>q) λ_ _ q=>q;rcases hc with z | z;·rw[z];exact eE b u e
  ·exact eE c _ z
theorem Inv.tok(I:K!)(t:Nat):lL! ({s with toks:=t}):=I.un Un.refl eL!
theorem Inv.kept(I:K!)(k:∀b u,fU! b u->gj! b u):lL! ({s with heap:=h',toks:=t'}):=I.un (Un.kept k) (I.hok.kept k)
theorem Inv.laid{a:Addr} (I:K!) (k:∀b u,fU! b u->gj! b u) (hp:at!<=a) (new:jA aT! X.w (g4! o) h' a o): cI! (g4! o) ({s with heap:=h',toks:=t'}):=I.un (Un.laid k hp (sa! hp)) (I.hok.laid k hp new)
theorem Inv.write(I:K!) (mu:Mut (H x)) (he:e=x\/H e=b! (.own x)) (k:∀b u,b≠e->fU! b u->gj! b u) (dU:∃u,gj! e u) (new:jA aT! X.w (hS! x o) h' x o):cI! (hS! x o) ({s with heap:=h',toks:=t'}):=I.un (Un.write mu he k dU) (I.hok.write mu he k dU new)
theorem Inv.weak(I:K!)(hl:O'.length=p4!)(w:∀(i:Nat) v,aj! O' bP!->aj! O bP!):kO! O' H s:= ⟨m8!,jT!,jn!,nV!,let ⟨m,hn,eI⟩:=I.loc;⟨m,hn,λi x v e1 e2 e3=>eI i x v e1 (w i v e2) e3⟩,nW!,iH!,lo!,I.pin,eL!,hl.trans ln!⟩
theorem Inv.pins_of(I:K!)(h:∀p∈pins',fU! p.1 p.2/\H p.1=a!/\iU! p.1/\p.1∉jm!/\∀v,p.2.data≠.cell v):Inv X pins' O H s:= ⟨m8!,jT!,jn!,nV!,mc!,nW!,iH!,lo!,bq! (mK! hp (λz=>k8! (_ba _ z)) (h p)),eL!,ln!⟩
theorem zdm{N:aq!}(hN:N.Nodup){i j:Nat} (a:aj! N x)(b:E! N j x):i=j:=by
 obtain⟨h1,e1⟩:=nY! a;obtain⟨h2,e2⟩:=nY! b;exact (_a0 hN).mp (e1.trans e2.symm)
theorem z6X(I:K!)(hN:X.N.Nodup)(hi:gr! x)(hx:ii! x)(r:ww v u) (h:∀s',kO! (kV! i) H s'->(∃a,Heap.SameBut a F! gH!/\(a=jS!\/gM! x a))->Q () s')(hf:ik! (hn! x\/fY! x)):fG! M A (storeName aX! x u) Q E:=by
 obtain⟨m,hn,hl⟩:=id mc!;have iS:i<p4!:=by rw[I.len];exact cM! hi
 have cne:=I.cne;have bR:∀{a:Addr}{h':Heap},(∃o,dm! a/\H a=a!)->Heap.SameBut a F! h'->HOk aT! X.w H h':=λ{a h'} ha hs b ob e=>by
  obtain⟨_,_,de⟩:=ha;refine (nU! b ob e).stay (λc w' hc q=>a4! (hs.2 c ?_) q) (λ_ q=>q) λ_ _ q=>q;rintro rfl;rcases hc with rfl | hc;·rw[de]at e;cases e
  ·rw[de]at hc;cases hc
 rcases hx with hk | hk
 ·refine wpAny_storeName_local hk hn (λh' ma hs=>?_) (by rw[I.ok.kind];rfl);obtain⟨oL,_,_,md,_⟩:=id hn;refine h _ ⟨m8!,jT!,jn!,⟨p7! ?_,p7! ?_,I.base.free,λb o e hx=>?_,I.base.tups,I.base.frzs,I.base.tbls⟩,bM! ma (λj y v' e1 e2 e3=>?_),λy c e=>?_,iH!,lo!,bq! ?_,bR ⟨oL,md,iH!⟩ hs,by simpa using I.len⟩ (bM! hs cZ!);·exact a4! (hs.2 b (_D (_j c5! nT!))) (p5! b o e n hb hx)
  ·obtain⟨sl,e1⟩:=p6! b o e n hb hx;exact⟨sl,a4! (hs.2 b (_D (_j c5! nT!))) e1⟩
  ·obtain⟨o',e1⟩:=oG! o e hx;exact⟨o',a4! (hs.2 b (_D (_j c5! nT!))) e1⟩
  ·by_cases hj:j=i
   ·subst hj;rw[hi]at e1;cases e1;rw[_ah iS]at e2;cases e2;exact⟨u,r,y! ⟨hk,by simp⟩⟩
   ·rw[_ab (_bT hj)]at e2;obtain⟨u',r',q⟩:=hl j y v' e1 e2 e3;refine aV! u' r' ?_;rcases q with⟨k,e⟩ | ⟨k,c,e,z⟩
    ·refine y! ⟨k,?_⟩;have:y≠x:=λe=>hj (zdm hN e1 (e ▸ hi));simp[this,e]
    ·exact Q! ⟨k,c,e,z.sameBut hs (cne y c e)⟩
  ·obtain⟨w',z⟩:=nz! y e;exact⟨w',z.sameBut hs (cne y c e)⟩
  ·obtain⟨e,n,ne,nf,d⟩:=k8! hp;exact⟨a4! (hs.2 p.1 ne) e,n,ne,nf,d⟩
 ·have gF:hn! x:=by
   rcases hf with z | z;·exact z
   ·rw[z]at hk;cases hk
  obtain⟨c,hc⟩:=I.ok.has x (y! hk);obtain⟨w',z⟩:=nz! x hc;refine wpAny_storeName_cell p8! hk hc z (λh' cB hs=>?_);obtain⟨oc,iV,gG⟩:=id z;refine h {s with heap:=h'} ⟨m8!,jT!,jn!,⟨p7! (a4! (hs.2 b (_D (_j c5! (I.ok.cab x c gF hc)))) (p5! b o e n hb hx)),p7! ?_,I.base.free,λb o e hx=>?_,I.base.tups,I.base.frzs,I.base.tbls⟩,⟨m,hn.sameBut hs (_bT (cne x c hc)),λj y v' e1 e2 e3=>?_⟩,λy c' e=>?_,iH!,lo!,bq! ?_,bR ⟨oc,iV,I.freeC x c hc⟩ hs,by simpa using I.len⟩ ⟨c,hs,Q! hc⟩
  ·obtain⟨sl,e1⟩:=p6! b o e n hb hx;exact⟨sl,a4! (hs.2 b (_D (_j c5! (I.ok.cab x c gF hc)))) e1⟩
  ·obtain⟨o',e1⟩:=oG! o e hx;exact⟨o',a4! (hs.2 b (_D (_j c5! (I.ok.cab x c gF hc)))) e1⟩
  ·by_cases hj:j=i
   ·subst hj;rw[hi]at e1;cases e1;rw[_ah iS]at e2;cases e2;exact⟨u,r,Q! ⟨y! hk,c,hc,cB⟩⟩
   ·rw[_ab (_bT hj)]at e2;obtain⟨u',r',q⟩:=hl j y v' e1 e2 e3;refine aV! u' r' ?_;rcases q with q | ⟨k,c',e,z'⟩;·exact y! q
    ·refine Q! ⟨k,c',e,z'.sameBut hs ?_⟩;rintro rfl;exact hj (zdm hN e1 (I.ok.inj _ _ _ e hc ▸ hi))
  ·by_cases hcc:c'=c;·subst hcc;exact c0! cB
   ·obtain⟨w2,z2⟩:=I.cell y c' e;exact⟨w2,z2.sameBut hs hcc⟩
  ·obtain⟨e,n,ne,nf,d⟩:=k8! hp;refine⟨a4! (hs.2 p.1 ?_) e,n,ne,nf,d⟩;intro q;rw[q,iV]at e;exact d w' (by rw[<- (_p e)];exact gG)
theorem z2z(I:K!)(hN:X.N.Nodup)(hi:gr! x)(hx:ii! x)(r:ww v u) (h:∀s',kO! (kV! i) H s'->Q () s')(hf:ik! (hn! x\/fY! x)):fG! M A (storeName aX! x u) Q E:= z6X I hN hi hx r (λs' I' _=>h s' I') hf
theorem Inv.call'(I:K!)(ho:p9!=s.os)(u:Un (frs jl!) ch H H' F! gH!)(hok:HOk aT! X.w H' gH!)(hg:rf!) (cQ:∀b∈ch,(b∈lm!\/X.s₀.heap.objs.size<=b)/\iU! b/\(∀x c,gM! x c->c≠b)/\∀p∈iG!++ae,p.1≠b):cI! H' s':=by
 obtain⟨h',g',d',t',o'⟩:=s';subst ho;exact I.call u hok hg cQ
end
abbrev XK:=dR!->oI!->bQ!
noncomputable abbrev St:=mm! V
abbrev VK:=V->bQ!
abbrev TE:=St->Hp->eA!
abbrev TT:=St->Hp->(cb!->bQ!)->g!
abbrev TA:=St->Hp->(aG!->bQ!)->g!
structure zlg where
 nx:St->bQ!
 rt:VK
 bk:St->bQ!:=iW!
 ct:St->bQ!:=iW!
abbrev TS:=zlg->St->bQ!
def EP(X:Cx)(ae:de!)(O:St)(Q:VK)(u:Value)(s':Shared):g!:=∃v H',cI! H' s'/\ww v u/\Q v H'
def TP(X:Cx)(ae:de!)(O:St)(Q:cb!->bQ!)(b:Bool)(s':Shared):g!:=∃H',cI! H' s'/\Q b H'
def AP(X:Cx)(ae:de!)(O:St)(Q:aG!->bQ!)(us:bU!)(s':Shared):g!:=∃vs H',cI! H' s'/\kl! vs/\Q vs H'
def SP(X:Cx)(ae:de!)(D:zlg)(f:Flow)(s':Shared):g!:= match f with
 | .next=>∃O' H',kO! O' H' s'/\D.nx O' H' | .brk=>∃O' H',kO! O' H' s'/\D.bk O' H' | .cont=>∃O' H',kO! O' H' s'/\D.ct O' H' | .ret u=>∃v O' H',kO! O' H' s'/\ww v u/\D.rt v H'
def PE(X:Cx)(e:Expr)(t:TE):g!:= ∀(ae:List (Addr×Obj))(s:Shared)(O:St)(H:Hp)(Q:VK),K!->t O H Q->bO! (hc! e) (EP X ae O Q) s
def PT(X:Cx)(e:Expr)(t:TT):g!:= ∀(ae:List (Addr×Obj))(s:Shared)(O:St)(H:Hp)(Q:Bool->Hp->Prop),K!->t O H Q->bO! (qa! e aX! (hc! e)) (TP X ae O Q) s
def PW(X:Cx)(e:Expr)(t:TT):g!:= ∀(whole:Sem Value)(ae:List (Addr×Obj))(s:Shared)(O:St)(H:Hp)(Q:Bool->Hp->Prop),K!->t O H Q->bO! (qa! e aX! whole) (TP X ae O Q) s
theorem PW.pt(h:PW X e t):PT X e t:=h _
def PA(X:Cx)(es:aE!)(t:TA):g!:= ∀(pos:Pos)(ae:List (Addr×Obj))(s:Shared)(O:St)(H:Hp)(Q:List V->Hp->Prop),K!->t O H Q->bO! (spliced (hP! pos es)) (AP X ae O Q) s
def PS(X:Cx)(st:Stmt)(t:TS):g!:= ∀(ae:List (Addr×Obj))(s:Shared)(O:St)(H:Hp)(D:zlg),K!->t D O H->bO! (exec st aX!) (SP X ae D) s
def PSs(X:Cx)(st:nt!)(t:TS):g!:= ∀(ae:List (Addr×Obj))(s:Shared)(O:St)(H:Hp)(D:zlg),K!->t D O H->bO! (execs st aX!) (SP X ae D) s
theorem thn{Q Q':α->ev!} (h:fG! M A t Q E)(hQ:∀a s,Q a s->Q' a s):fG! M A t Q' E:=_Z h hQ λ_ _ x=>x
section
variable {X:Cx}
theorem bin(ha:S! a ta)(hb:S! b tb) {O:St} {R:V->V->bQ!}(I:K!)(h:ta O H (hG! (tb O H1 λy H2=>R x y H2))) {f:dR!->dR!->Sem α} (hf:∀v u s2 x y H2,cI! H2 s2->ww x v->ww y u->R x y H2->bO! (f v u) Q s2): bO! (hc! a) (λv s₁=>bO! (hc! b) (λu s₂=>bO! (f v u) Q md!) jo!) s:=by exact thn (ha ae s O H _ I h) λv s1 ⟨x,H1,I1,r1,q1⟩=>(thn (hb ae s1 O H1 _ I1 q1) λu s2 ⟨y,H2,I2,r2,q2⟩=>(hf v u s2 x y H2 I2 r1 r2 q2))
def zvy(i:Nat):TE:=gI! (∃v,aj! O bP!/\Q v H)
def tC(v:V):TE:=λ_ H Q=>Q v H
theorem zl7{pos:Pos}(hN:gr! x)(hv:sy! x)(hd:ce! (x==cH!))(bC:ce! (x==l! "__classdict__")):S! mS! (zvy i):=by
 intro ae s O H Q I h;obtain⟨v,e,h⟩:=h;obtain⟨m,hn,hl⟩:=I.loc;obtain⟨u,r,l⟩:=hl i x v hN e hv;have fin:EP X ae O Q u s:=⟨v,H,I,r,h⟩;rcases l with⟨hk,hm⟩ | ⟨hk,c,hc,bS⟩;·exact wpAny_Name (wpAny_loadName_local p8! hk hn hm fin) hd
 ·rcases hk with hk | hk;·exact wpAny_Name (wpAny_loadName_cell p8! hk hc bS fin) hd
  ·exact wpAny_Name (wpAny_loadName_free p8! hk hc bS fin bC) hd
theorem zlP: S! (lX! aa! pos) (tC aa!):=o5! (wpAny_Constant_int ⟨aa!,H,it!,co! _,h⟩)
theorem zsS: S! (lX! k7! pos) (tC (.bl b)):=o5! (Constant_bool (bn! (.bl b) H I h))
theorem zpZ: S! (lX! X! pos) (tC aJ!):=o5! (Constant_none (bn! aJ! H I h))
theorem zld: S! (gN! x j pos) (tC aY!):=o5! (_cF ⟨aY!,H,it!,co! _,h⟩)
def Gl(X:Cx)(x:Str):g!:=fP! x=b! .globalImplicit
theorem z3F{O:St} (I:K!)(hg:e7!)(hm:X.mg x=b! u)(h:Q u s) (hd:ce! (x==cH!)):lN! (hc! mS!) Q E s:= Calls.Name_function_global p8! hg (Calls.loadGlobal_global (by rw[I.ok.glob];exact I.mod.glob.keeps I.bk) hm h) hd
theorem z1z{E:bX!} {O:St} {pos:Pos} (I:K!)(hg:e7!)(hm:dF! x)(hv:kP! x u)(h:Q u s) (hn:j5! (lT! x))(hd:ce! (x==cH!)):lN! (hc! mS!) Q E s:=by
 obtain⟨mb,h1,h2⟩:=I.mod.blt;exact Calls.Name_function_global p8! hg (Calls.loadGlobal_builtin (by rw[I.ok.glob];exact I.mod.glob.keeps I.bk) hm (by rw[I.ok.blt];exact h1.keeps I.bk) (a4! (h2 x hn) hv) h) hd
theorem z6J(hg:e7!)(hm:X.mg x=b! u)(r:ww v u)(hd:ce! (x==cH!)):S! mS! (tC v):= o5! (z3F I hg hm ⟨v,H,I,r,h⟩ hd)
theorem z9n{pos:Pos}(hg:e7!)(hm:dF! x)(hv:kP! x u)(r:ww v u)(hn:j5! (lT! x))(hd:ce! (x==cH!)):S! mS! (tC v):= o5! (z1z I hg hm hv ⟨v,H,I,r,h⟩ hn hd)
variable {a b:Expr}{ta tb:TE}{pos:Pos}
def PC(X:Cx)(op:CmpOp)(a b:Expr)(t:TE):g!:= ∀(ae:List (Addr×Obj))(s:Shared)(O:St)(H:Hp)(Q:VK),K!->t O H Q-> bO! (hc! a) (λv s₁=>bO! (hc! b) (λu s₂=>bO! (compareOp op v u) (EP X ae O Q) md!) jo!) s
def tB(t:TE):TT:=kZ! O H (hG! (∃c,x=.bl c/\Q c H1))
theorem zut(h:PC X op a b t)(h1:pL! b=r!:=by first | exact nobehind _ (by decide) (by decide) | rfl):PT X (.Compare a [op] [b] pos) (tB t):=by
 refine λae s O H Q I hw=>wpAny_isTrue_Compare1 (thn (h ae s O H _ I hw) λv s1 h1=>thn h1 λu s2 h2=>thn h2 λc s3 ⟨x,H1,I1,r1,q1⟩=>?_) h1;obtain⟨d,rfl,q⟩:=q1;cases r1;exact _aV ⟨H1,I1,q⟩
theorem zqh(h:S! e t)(he:autoParam (∀whole,qa! e aX! whole=(do let v <- whole;standAt e.pos;nZ! [v] (truthy v))) aIr):PT X e (tB t):=by
 refine λae s O H Q I hw=>isTrue_plain (thn (h ae s O H _ I hw) λv s1 ⟨x,H1,I1,r1,q1⟩=>?_) (he _);obtain⟨d,rfl,q⟩:=q1;cases r1;exact _aV ⟨H1,I1,q⟩
variable {tA fV:TT}{jC:aE!}
def zuA(t u:TT):TT:=kZ! O H (λc H1=>aF! c (u O H1 Q) (Q r! H1))
def tOr(t u:TT):TT:=kZ! O H (λc H1=>aF! c (Q c! H1) (u O H1 Q))
def zvA(t:TT):TT:=kZ! O H (λc H1=>Q (!c) H1)
theorem znk(ha:PT X a tA):PW X (hh! .And [a]) tA:=by
 refine λwh ae s O H Q I h=>isTrue_and (thn (ha ae s O H Q I h) λc s1 e=>?_);cases c with
 | true=>exact isTrue_and_nil e | false=>exact e
theorem zpu(ha:PT X a tA):PW X (hh! .Or [a]) tA:=by
 refine λwh ae s O H Q I h=>isTrue_or (thn (ha ae s O H Q I h) λc s1 e=>?_);cases c with
 | false=>exact isTrue_or_nil e | true=>exact e
theorem zpq(ha:PT X a tA)(hb:PW X (hh! .And (b::jC)) fV):PW X (hh! .And (a::b::jC)) (zuA tA fV):=by
 refine λwh ae s O H Q I h=>isTrue_and (thn (ha ae s O H _ I h) λc s1 ⟨H1,I1,q1⟩=>?_);cases c with
 | true=>exact hb wh ae s1 O H1 Q I1 q1 | false=>exact aV! H1 I1 q1
theorem zsV(ha:PT X a tA)(hb:PW X (hh! .Or (b::jC)) fV):PW X (hh! .Or (a::b::jC)) (tOr tA fV):=by
 refine λwh ae s O H Q I h=>isTrue_or (thn (ha ae s O H _ I h) λc s1 ⟨H1,I1,q1⟩=>?_);cases c with
 | true=>exact aV! H1 I1 q1 | false=>exact hb wh ae s1 O H1 Q I1 q1
theorem zoV(ha:PT X a tA):PT X (.UnaryOp .Not a pos) (zvA tA):=iI! (isTrue_not (ha ae s O H (λc H1=>Q (!c) H1) I h))
def zrQ(ta tb:TE):TE:=gI! (ta O H (hG! (∃c,x=.bl c/\aF! c (tb O H1 Q) (Q cJ! H1))))
def zsF(ta:TE):TE:=gI! (ta O H (hG! (∃c,x=.bl c/\Q (.bl (!c)) H1)))
theorem zpf(h:S! a t):S! (hh! op [a]) t:=λae s O H Q I hw=>BoolOp_one (h ae s O H Q I hw)
theorem zos(ha:S! a ta)(hb:S! (hh! .And (b::jC)) tb):S! (hh! .And (a::b::jC)) (zrQ ta tb):=by
 refine iI! (BoolOp_and (thn (ha ae s O H _ I h) λv s1 ⟨x,H1,I1,r1,q1⟩=>?_));obtain⟨c,rfl,q1⟩:=q1;cases r1;refine _aV ?_;cases c with
 | true=>exact hb ae s1 O H1 Q I1 q1 | false=>exact bn! cJ! H1 I1 q1
theorem zqr(ha:S! a ta):S! (.UnaryOp .Not a pos) (zsF ta):=by
 refine iI! (UnaryOp_ (thn (ha ae s O H _ I h) λv s1 ⟨x,H1,I1,r1,q1⟩=>?_));obtain⟨c,rfl,q1⟩:=q1;cases r1;exact not_of (_aV (bn! (.bl (!c)) H1 I1 q1))
def tIf(t:TT)(ta tb:TE):TE:=kZ! O H (λc H1=>aF! c (ta O H1 Q) (tb O H1 Q))
theorem zjp(hc:PT X c tA)(ha:S! a ta)(hb:S! b tb):S! (.IfExp c a b pos) (tIf tA ta tb):=by
 refine iI! (wpAny_IfExp (thn (hc ae s O H _ I h) λd s1 ⟨H1,I1,q1⟩=>?_));cases d with
 | true=>exact ha ae s1 O H1 Q I1 q1 | false=>exact hb ae s1 O H1 Q I1 q1
end
def SqL(K:W.Frag)(H:Hp)(a:Addr)(xs:aG!):g!:= Rd H a cq!\/ ∃(o:Obj)(af:Array Value)(n:Nat),oK!=b! o/\gd!=db!/\o.dict=a!/\ib!=.seq af n/\af.size<=aW!/\xl xs o1!
def SqT(K:W.Frag)(H:Hp)(a:Addr)(xs:aG!):g!:= Rd H a ah!\/ ∃(o:Obj)(af:Array Value)(n:Nat),oK!=b! o/\gd!=dC!/\ib!=.seq af n/\af.size<=aW!/\xl xs o1!
noncomputable def zvF:dR!->bm! V
 | .none=>b! aJ! | .bool b=>b! (.bl b) | .int i _=>ch! | .str x _=>b! aY! | .bytes b _=>b! (.byt b) | .float b _=>b! (.flt b) | .ref a=>b! ac! | .type n=>b! (.ty n) | _=>none
theorem ww.abs(r:ww x u):zvF u=dJ!:=by cases x with
 | non=>cases r;rfl | bl _=>cases r;rfl | int _=>obtain⟨t,rfl⟩:=r;rfl | str _=>obtain⟨t,rfl⟩:=r;rfl | byt _=>obtain⟨t,rfl⟩:=r;rfl | flt _=>obtain⟨t,rfl⟩:=r;rfl | ref _=>cases r;rfl | ty _=>cases r;rfl
theorem ww.inj(r:ww x u)(q:ww y u):x=y:=_p (r.abs.symm.trans q.abs)
theorem xl.inj:∀{xs ys:List V}{us:List Value},i7!->kl! ys->xs=ys
 | _,_,_,.nil,.nil=>rfl | _,_,_,.cons r t,.cons r' t'=>by rw[r.inj r',xl.inj t t']
section
variable {X:Cx}{ae:de!}{O:St}{H:Hp}{s:Shared}{a:Addr}{xs ys:aG!}
theorem Inv.list(I:K!)(h:SqL X.K H a xs):∃af:List Value,xl xs af/\PlainL F! a fs!/\x!<=aW!:=by
 rcases h with h | ⟨o,af,n,hk,hc,hd,hs,hz,r⟩
 ·obtain⟨z,af,n,r,e⟩:=h.ok eL!;exact ck! af r ⟨_,n,e,rfl,rfl,rfl⟩ z
 ·refine ck! o1! r ⟨o,n,I.kIn a o hk,hc,hd,by exact hs⟩ ?_;have e:=r.length;simp only[_aY]at e;lia
theorem Inv.tuple(I:K!)(h:eG! X.K a xs):∃af:List Value,xl xs af/\IsTup F! a fs!/\x!<=aW!:=by
 rcases h with h | ⟨o,af,n,hk,hc,hs,hz,r⟩
 ·obtain⟨z,af,r,p⟩:=h.ok eL!;exact ck! af r p.tup z
 ·refine ck! o1! r ⟨o,I.kIn a o hk,hc,n,by exact hs⟩ ?_;have e:=r.length;simp only[_aY]at e;lia
theorem Inv.list_inj(I:K!)(h:SqL X.K H a xs)(h':SqL X.K H a ys):xs=ys:=by
 obtain⟨af,r,⟨o,n,e,_,_,d⟩,_⟩:=I.list h;obtain⟨aP,r',⟨o',n',e',_,_,d'⟩,_⟩:=I.list h';rw[e]at e';cases e';rw[d]at d';injection d' with d1 _;have:af=aP:=by exact _at Array.toList d1
 subst this;exact r.inj r'
theorem Inv.tuple_inj(I:K!)(h:eG! X.K a xs)(h':eG! X.K a ys):xs=ys:=by
 obtain⟨af,r,⟨o,e,_,n,d⟩,_⟩:=lp! h;obtain⟨aP,r',⟨o',e',_,n',d'⟩,_⟩:=lp! h';rw[e]at e';cases e';rw[d]at d';injection d' with d1 _;have:af=aP:=by exact _at Array.toList d1
 subst this;exact r.inj r'
end
noncomputable abbrev Cx.wish(X:Cx)(E:bX!):Cx:={X with xe:=E}
noncomputable abbrev Cx.nox(X:Cx):Cx:=qb! iW!
theorem Cx.Ok.wish{X:Cx}(ok:X.Ok)(E:bX!):(qb! E).Ok:= ⟨ok.mod,ok.kind,ok.glob,ok.blt,ok.above,ok.inj,ok.has,ok.cab,ok.hd,ok.frames,ok.stk,ok.exf,ok.bs,ok.bsz,ok.noex,ok.exfs,ok.funs,ok.frf⟩
theorem Cx.Ok.unwish{X:Cx} (ok:(qb! E).Ok):X.Ok:= ⟨ok.mod,ok.kind,ok.glob,ok.blt,ok.above,ok.inj,ok.has,ok.cab,ok.hd,ok.frames,ok.stk,ok.exf,ok.bs,ok.bsz,ok.noex,ok.exfs,ok.funs,ok.frf⟩
section
variable {X:Cx}{ae:de!}{O:St}{H:Hp}{s:Shared}{E:bX!}
theorem Inv.wish(I:K!)(E:bX!):Inv (qb! E) ae O H s:=⟨I.ok.wish E,jT!,jn!,nV!,mc!,nW!,iH!,lo!,I.pin,eL!,ln!⟩
theorem Inv.unwish(I:Inv (qb! E) ae O H s):K!:=⟨I.ok.unwish,jT!,jn!,nV!,mc!,nW!,iH!,lo!,I.pin,eL!,ln!⟩
theorem SP.unwish{D:zlg}{f:Flow}{s':Shared}(h:SP (qb! E) ae D f s'):SP X ae D f s':=by cases f with
 | next=>obtain⟨O',H',I,q⟩:=h;exact ck! O' H' I.unwish q | brk=>obtain⟨O',H',I,q⟩:=h;exact ck! O' H' I.unwish q | cont=>obtain⟨O',H',I,q⟩:=h;exact ck! O' H' I.unwish q | ret u=>obtain⟨v,O',H',I,r,q⟩:=h;exact⟨v,O',H',I.unwish,r,q⟩
theorem PSs.nox{st:nt!} (h:PSs X.nox st t):PSs X st t:=λae s O H D I hw=> _Z (h ae s O H D (I.wish _) hw) (λ_ _ q=>q.unwish) λ_ _ z=>me! z
end
section
variable {X:Cx}{st:Stmt}{jC:nt!}{t u:TS}{e:Expr}{te:TE}{pos:Pos}
def zs9:TS:=lq! (D.nx O H)
def zu9(t u:TS):TS:=lq! (t {D with nx:=u D} O H)
theorem zmc:PSs X [] zs9:=λ_ _ O H _ I h=>_cs ⟨O,H,I,h⟩
theorem ziC(h1:PS X st t)(h2:PSs X jC u):PSs X (st::jC) (zu9 t u):=by
 refine na! (wpAny_execs_cons (thn (h1 ae s O H {D with nx:=u D} I h) λf s1 q=>?_));cases f with
 | next=>
  obtain⟨O',H',I',q⟩:=q;exact h2 ae s1 O' H' D I' q | ret v=>exact q | brk=>exact q | cont=>exact q
theorem zmb(h1:PS X st t):PSs X [st] t:=by
 refine na! (wpAny_execs_cons (thn (h1 ae s O H D I h) λf s1 q=>?_));cases f with
 | next=>exact _cs q | ret v=>exact q | brk=>exact q | cont=>exact q
theorem Inv.quiet{O:St} (I:K!):interactive aX!=r!:=by simp[interactive,I.ok.kind]
def zsJ(te:TE):TS:=lq! (te O H λ_ H1=>D.nx O H1)
theorem znf(he:S! e te)(hs:A! (mr! e a! n0!=mC!)):PS X (.Expr e pos) (zsJ te):=na! (wpAny_Expr_any (thn (he ae s O H _ I h) λv s1 ⟨x,H1,I1,r1,q1⟩=>ck! O H1 I1 q1) I.quiet hs)
def zv9(te:TE):TS:=lq! (te O H D.rt)
theorem zoY(he:S! e te):PS X (.Return z! pos) (zv9 te):=na! (wpAny_Return_some (thn (he ae s O H _ I h) λv s1 ⟨x,H1,I1,r1,q1⟩=>⟨x,O,H1,I1,r1,q1⟩))
def zvC(c:TT)(t u:TS):TS:=lq! (c O H λb H1=>aF! b (t D O H1) (u D O H1))
theorem ztx(hc:PT X c tc)(ha:PSs X a t)(hb:PSs X b u):PS X (.If c a b pos) (zvC tc t u):=by
 refine na! (wpAny_If (thn (hc ae s O H _ I h) λd s1 ⟨H1,I1,q1⟩=>?_));cases d with
 | true=>exact ha ae s1 O H1 D I1 q1 | false=>exact hb ae s1 O H1 D I1 q1
def zoL:TS:=fv! m9!
theorem ziM:PS X st zoL:=λ_ _ _ _ _ _ h=>h.elim
end
abbrev TG:=V->St->Hp->(St->bQ!)->g!
abbrev TGs:=aG!->St->Hp->(St->bQ!)->g!
def PG(X:Cx)(bE:Expr)(t:TG):g!:= ∀(ae:List (Addr×Obj))(s:Shared)(O:St)(H:Hp)(v:V)(u:Value)(Q:St->Hp->Prop),K!->ww v u->t v O H Q-> bO! (assign bE aX! u) (λ_ s'=>∃O' H',kO! O' H' s'/\Q O' H') s
def PGs(X:Cx)(ts:aE!)(t:TGs):g!:= ∀(ae:List (Addr×Obj))(s:Shared)(O:St)(H:Hp)(vs:List V)(us:List Value)(Q:St->Hp->Prop),K!->kl! vs->t vs O H Q-> bO! (assignInOrder ((oz! ts).map (·.2)) us) (λ_ s'=>∃O' H',kO! O' H' s'/\Q O' H') s
abbrev zuo:=V->V->V->Hp->bQ!->g!
def zup(X:Cx)(t:zuo):g!:= ∀(ae:List (Addr×Obj))(s:Shared)(O:St)(H:Hp)(o i v:V)(ov iv u:Value)(Q:Hp->Prop),K!->ww o ov->ww i iv->ww v u->t o i v H Q-> bO! (setItem ov iv u) (λ_ s'=>∃H',cI! H' s'/\Q H') s
section
variable {X:Cx}{pos:Pos}
noncomputable def zev(i:Nat):TG:=λv O H Q=>Q (kV! i) H
theorem zS(hN:X.N.Nodup)(hi:gr! x)(hx:ii! x)(hf:ik! (hn! x\/fY! x)):PG X mS! (zev i):=λae s O H v u Q I r h=>_cY (z2z I hN hi hx r (λs' I'=>ck! _ H I' h) hf)
noncomputable def zuc:TGs:=λvs O H Q=>vs=[]/\Q O H
def zn5(t:TG)(u:TGs):TGs:=λvs O H Q=>∃v r,vs=v::r/\t v O H λO' H'=>u r O' H' Q
theorem zht:PGs X [] zuc:=by
 intro ae s O H vs us Q I r h;obtain⟨e,h⟩:=h;exact assignInOrder_nil ⟨O,H,I,h⟩
theorem z5v(h1:PG X e t)(h2:PGs X es u) (hs:A! ((oz! (e::es)).map (·.2)=assign e aX!::(oz! es).map (·.2))):PGs X (e::es) (zn5 t u):=by
 intro ae s O H vs us Q I r h;obtain⟨v,vr,e1,h⟩:=h;subst e1;cases r with | cons r rr=>
  rw[hs];exact _cH (thn (h1 ae s O H _ _ _ I r h) λ_ s1 ⟨O1,H1,I1,q1⟩=>(h2 ae s1 O1 H1 _ _ Q I1 rr q1))
def zur(K:W.Frag)(n:Nat)(t:TGs):TG:=λv O H Q=>∃a xs,v=ac!/\eG! K a xs/\x!=n/\t xs O H Q
theorem zlx{k:Nat} (hc:b2!)(h:PGs X es t) (hn:A! (q! (oz! es)=n))(dD:A! ((oz! es).findIdx? (·.1)=a!)):PG X (hH! es k pos) (zur X.K n t):=by
 intro ae s O H v u Q I r hw;obtain⟨a,xs,e1,hq,hl,hw⟩:=hw;subst e1;cases r;obtain⟨af,rv,ht,hz⟩:=nr!;exact assign_Tuple_tuple hg! ht (by simp[hn,<- hl,rv.length]) dD λh' hx=>(h ae _ O H xs _ Q (I.kept (t':=s.toks) (gG! (hx b o (_D c5!) e))) (by exact rv) hw)
noncomputable def zvv(to ti:TE)(t:zuo):TG:=λv O H Q=>to O H λo H1=>ti O H1 λi H2=>t o i v H2 λH3=>Q O H3
theorem zol(ho:S! o to)(hi:S! i ti)(hs:zup X t) (ha:∀v,assign (mw! o i) aX! v=(do
   let ov <- nZ! [v] gw! let iv <- nZ! [v,ov] (hc! i)
   standAt pos
   nZ! [v,ov,iv] (setItem ov iv v)
   release [v,ov,iv] []):=by intro _;rfl):PG X (mw! o i) (zvv to ti t):=by
 intro ae s O H v u Q I r h;exact _a (_aT (thn (ho ae s O H _ I h) λov s1 ⟨x,H1,I1,r1,q1⟩=>(_a (_aT (thn (hi ae s1 O H1 _ I1 q1) λiv s2 ⟨y,H2,I2,r2,q2⟩=>(_a (_ck (_a (_aT (thn (hs ae s2 O H2 x y v ov iv u _ I2 r1 r2 r q2) λ_ s3 ⟨H3,I3,q3⟩=>(wpAny_release ⟨O,H3,I3,q3⟩)))))))))))
def zrP(te:TE)(g:TG):TS:=lq! (te O H (hG! (g x O H1 D.nx)))
theorem zla(he:S! e te)(hg:PG X tg g)(hs:A! (rM! [tg] e aX!=mC!))(hw:A! (rP! [tg] e=dS! a!)) (h1:A! ((oz! [tg]).map (·.2)=[assign tg aX!])):PS X (.Assign [tg] e pos) (zrP te g):=by
 refine na! (wpAny_Assign_stores (thn (he ae s O H _ I h) λv s1 ⟨x,H1,I1,r1,q1⟩=>?_) hs hw);rw[h1];exact thn (hg ae s1 O H1 x v _ I1 r1 q1) λ_ s2 q=>q
theorem zqJ(hN:X.N.Nodup)(hi:gr! x)(hx:ii! x)(he:S! e te)(hs:A! (mr! e (b! (fC! cC)) n0!=mC!))(hf:ik! (hn! x\/fY! x)): PS X (.Assign [fC! cC] e pos) (zrP te (zev i)):=by exact na! (wpAny_Assign_Name (thn (he ae s O H _ I h) λv s1 ⟨y,H1,I1,r1,q1⟩=>(z2z I1 hN hi hx r1 (λs2 I2=>ck! _ H1 I2 q1) hf)) hs)
def zuM(i j:Nat)(ta:TA):TS:=lq! (ta O H λvs H1=>∃v w,vs=[v,w]/\D.nx (i8! (kV! i) j w) H1)
theorem zpB(hc:b2!) (hN:X.N.Nodup) (hi:gr! x) (hj:E! X.N j y) (aJ:i≠j) (hx:fY! x) (hy:fY! y) (ha:PA X [a,b] ta) (hw:rP! [jL! [fC! px,gC!] pt] (hH! [a,b] k2 dY)=dS! (b! [x,y])) (hs:A! (rM! [jL! [fC! px,gC!] pt] (hH! [a,b] k2 dY) aX!=mC!)): PS X (.Assign [jL! [fC! px,gC!] pt] (hH! [a,b] k2 dY) pos) (zuM i j ta):=by
 refine na! (_a (_ck ?_));refine _a (_m (_a (Tuple_ (thn (ha _ ae s O H _ I h) λus s1 ⟨vs,H1,I1,r1,q1⟩=>?_))));obtain⟨v,w,e1,q1⟩:=q1;subst e1;obtain⟨u1,u2,rfl,rv,eJ⟩:∃u1 u2,us=[u1,u2]/\ww v u1/\ww w u2:=by cases r1 with | cons p q=> cases q with | cons p' q'=>
    cases q';exact gR! _ _ p p'
 refine _aG ?_ (by show 2<=aW!;decide);have I2:cI! H1 ({s1 with heap:=qc! ({cls:=dC!,data:=oN! [u1,u2]})}):=n1! (l1! _ e);rw[hw];refine _a (_m ?_);refine _a (_cI (_a (unpackItems_tuple (items:=#[u1,u2]) hg! (IsTup.new qd! _) λh' hx'=>(_a (_cH (wpAny_bindName (z2z (I2.kept (h':=h') (t':=s1.toks) (gG! (hx' b o (_D c5!) e))) hN hj (y! hy) eJ (λs2 I4=>?_) (Q! hy))))))));refine _cH (wpAny_bindName (z2z I4 hN hi (y! hx) rv (λs3 I5=>assignInOrder_nil (_m ?_)) (Q! hx)));rw[List.set_comm _ _ (_bT aJ)]at I5;exact ck! _ H1 I5 q1
end
section
variable {X:Cx}{pos:Pos}
def zp4(c:TT)(tb:TS):TS:=lq! (∃W:Nat->St->Hp->Prop,(∃m,W m O H)/\∀m O H,W m O H-> c O H λb H1=>aF! b (∃N:St->Hp->Prop,(∀O' H',N O' H'->∃m',m'<m/\W m' O' H')/\tb {D with nx:=N,ct:=N,bk:=D.nx} O H1) (D.nx O H1))
theorem zkd(hp:PassesOwn (oH! X.w) X.A aX! X.xe)(hc:PT X c tc)(hb:PSs X dT! tb):PS X (.While c dT! [] pos) (zp4 tc tb):=by
 intro ae s O H D I h;obtain⟨W,⟨m0,w0⟩,turn⟩:=h;refine wpAny_While (codeAny_whileLoop (λn s'=>∃O' H',kO! O' H' s'/\W n O' H') ?_ m0 ⟨O,H,I,w0⟩);rintro n s1 ⟨O1,H1,I1,w1⟩;refine _a7 hp (thn (hc ae s1 O1 H1 _ I1 (turn n O1 H1 w1)) λb s2 ⟨H2,I2,q2⟩=>?_);cases b with
 | true=>
  obtain⟨N,hN,q2⟩:=q2;refine _a7 hp (thn (hb ae s2 O1 H2 _ I2 q2) λf s3 q3=>?_);cases f with
  | next=>
   obtain⟨O3,H3,I3,n3⟩:=q3;obtain⟨m',hm,w3⟩:=hN O3 H3 n3;exact⟨m',hm,O3,H3,I3,w3⟩ | cont=>
   obtain⟨O3,H3,I3,n3⟩:=q3;obtain⟨m',hm,w3⟩:=hN O3 H3 n3;exact⟨m',hm,O3,H3,I3,w3⟩ | brk=>exact q3 | ret v=>exact q3
 | false=> exact _cs ⟨O1,H2,I2,q2⟩
end
structure It where
 go:Nat->bQ!
 yld:Nat->Hp->V->bQ!
 stop:Nat->bQ!
def zbK(X:Cx)(ae:de!)(H:Hp)(b:Addr):g!:= e8!/\iU! b/\b∉jm!/\(b∈lm!\/X.s₀.heap.objs.size<=b)/\(∀x c,gM! x c->c≠b)/\∀p∈iG!++ae,p.1≠b
theorem Inv.fpOk{O:St} {b:Addr}(I:K!)(hb:at!<=b)(hn:f3! b):zbK X ae H' b:=by
 refine⟨hn,_cA (_j I.lt hb),I.nofs hb,Q! (_H I.sz hb),λx c e z=>?_,λp hp z=>(kT! (_j (_r (k8! hp).1) (by rw[z];exact hb)) _)⟩
 ·obtain⟨v,q⟩:=nz! x e;exact kT! (_j q.lt (by rw[z];exact hb)) _
structure zji(P:Program)(w:World)(K:W.Frag)(tg:Expr)(J:It)(fp:an!)(it:Addr)(tn:Nat->Heap->g!):g! where
 mem:it∈fp
 obj:∀i h,tn i h->∀b∈fp,∃o,cG! b/\∀v,ib!≠.cell v
 keep:∀i h h',tn i h->(∀b∈fp,∀o,cG! b->dw! b)->tn i h'
 item:∀(X:Cx),aT!=P->X.w=w->X.K=K->b2!->∀(i:Nat)(ae:List (Addr×Obj))(s:Shared)(O:St)(H:Hp)(E:Value->Shared->Prop),K!->(∀b∈fp,zbK X ae H b)->tn i F!->J.go i H-> gh! P w X.A (o6! ko!) (λr s1=>∃u,r=b! u/\ gh! P w X.A (letOwnedTupleGo tg ko! u) (λ_ s2=>∃x H',cI! H' s2/\ww x u/\J.yld i H x H'/\tn (i+1) s2.heap/\∀b∈fp,f3! b) E s1) E s
 done:∀(X:Cx),aT!=P->X.w=w->X.K=K->b2!->∀(i:Nat)(ae:List (Addr×Obj))(s:Shared)(O:St)(H:Hp)(E:Value->Shared->Prop),K!->(∀b∈fp,zbK X ae H b)->tn i F!->J.stop i H-> gh! P w X.A (o6! ko!) (λr s1=>r=a!/\lL! s1) E s
 self:∀(A:Around)(i:Nat)(s:Shared)(Q:Value->Shared->Prop)(E:Value->Shared->Prop),tn i F!->Q ko! s->gh! P w A (pyIter ko!) Q E s
abbrev TI:=St->Hp->(It->bQ!)->g!
def PIE(X:Cx)(ae:de!)(O:St)(tg:Expr)(R:It->bQ!)(eK:Value)(s2:Shared):g!:= ∃(it:Addr)(fp:List Addr)(tn:Nat->Heap->Prop)(J:It)(H':Hp),eK=ko!/\cI! H' s2/\zji aT! X.w X.K tg J fp it tn/\tn 0 s2.heap/\(∀b∈fp,zbK X ae H' b)/\R J H'
def PI(X:Cx)(tg iter:Expr)(wi:TI):g!:= ∀(ae:List (Addr×Obj))(s:Shared)(O:St)(H:Hp)(R:It->Hp->Prop),K!->wi O H R-> bO! (hc! ic!) (λv s1=>bO! (pyIter v) (PIE X ae O tg R) s1) s
theorem ziL            (ho:dm! it)(hc:gd!=ar! n)(hd:ib!=eJ! vs) (hn:qe! [gE!,iC!,"dict_itemiterator","dict_reverseitemiterator","odict_iterator","itertools.zip_longest","itertools.pairwise"] n=r!)(hQ:Q () s):fG! M A (letOwnedTupleGo tg ko! u) Q E:=by cases tg<;>first
    | exact _m hQ | (cases u<;>first
        | exact _m hQ
        | (refine _a (wpAny_load ho ?_);rw[hc,hd];show fG! M A (aF! (qe! [gE!,iC!,"dict_itemiterator","dict_reverseitemiterator","odict_iterator","itertools.zip_longest","itertools.pairwise"] n&&vs[0]? == b! (rawInt _)) _ _) Q E;rw[_q (by intro h;rw[hn]at h;cases h)];exact _m hQ))
noncomputable def Itl(K:W.Frag)(a:Addr):It:= ⟨λi H=>∃xs x,SqL K H a xs/\aj! xs x,λi H x H'=>H'=H/\∀xs,SqL K H a xs->aj! xs x,λi H=>∃xs,SqL K H a xs/\x!<=i⟩
noncomputable def Itt(K:W.Frag)(a:Addr):It:= ⟨λi H=>∃xs x,eG! K a xs/\aj! xs x,λi H x H'=>H'=H/\∀xs,eG! K a xs->aj! xs x,λi H=>∃xs,eG! K a xs/\x!<=i⟩
noncomputable def Itr(lo:Int)(n:Nat):It:=⟨λi _=>i<n,λi H x H'=>H'=H/\x=d! (lo+i),λi _=>n<=i⟩
theorem zgZ{K:W.Frag} (a it:Addr):zji P w K tg (Itl K a) [it] it (λi h=>h.IsListIter it a i) where
 mem:=by simp
 obj:=λi h st b hb=>by
  have e:b=it:=by simpa using hb
  subst e;obtain⟨o,e,c,d⟩:=st;exact cr! e (λv z=>by rw[d]at z;cases z)
 keep:=λi h h' st k=>st.at λo e=>k it (by simp) o e;item:=by
  intro X hP hw hK hc i ae s O H E I hf st hg;subst hP hw hK;obtain⟨xs,x,hq,hx⟩:=hg;obtain⟨af,rv,p,hz⟩:=lZ!;obtain⟨u,hu,ru⟩:=rv.get hx;obtain⟨f0,f1,f2,f3,f4,f5⟩:=hf it (by simp);refine wpAny_pyNext_list_item st p.isList (by simpa using hu) λh' ay sb=>?_;obtain⟨o,e,c,d⟩:=id ay;exact aC! u (ziL e c d (by decide) ⟨x,H,(I.turned (t':=s.toks) (kA! (a4! (sb.2 b hb) e)) f0 f1 f3 f4 f5),ru,iq! (λys hy=>by rw[I.list_inj hy hq];exact hx),ay,cl! (hf b hb).1⟩)
 done:=by
  intro X hP hw hK hc i ae s O H E I hf st hg;subst hP hw hK;obtain⟨xs,hq,hx⟩:=hg;obtain⟨af,rv,p,hz⟩:=lZ!;obtain⟨f0,f1,f2,f3,f4,f5⟩:=hf it (by simp);have hl:=rv.length;exact wpAny_pyNext_list_end hg! st p.isList (by simp;lia) λh' eb=>iq! (I.turned (kA! (eb b o hb e)) f0 f1 f3 f4 f5)
 self:=λ_ _ _ _ _ st h=>wpAny_pyIter_listiter st h
theorem zfa{K:W.Frag} (a it:Addr):zji P w K tg (Itt K a) [it] it (λi h=>h.IsTupleIter it a i) where
 mem:=by simp
 obj:=λi h st b hb=>by
  have e:b=it:=by simpa using hb
  subst e;obtain⟨o,e,c,d⟩:=st;exact cr! e (λv z=>by rw[d]at z;cases z)
 keep:=λi h h' st k=>st.at λo e=>k it (by simp) o e;item:=by
  intro X hP hw hK hc i ae s O H E I hf st hg;subst hP hw hK;obtain⟨xs,x,hq,hx⟩:=hg;obtain⟨af,rv,p,hz⟩:=nr!;obtain⟨u,hu,ru⟩:=rv.get hx;obtain⟨f0,f1,f2,f3,f4,f5⟩:=hf it (by simp);refine wpAny_pyNext_tuple_item st (p) (by simpa using hu) λh' ay sb=>?_;obtain⟨o,e,c,d⟩:=id ay;exact aC! u (ziL e c d (by decide) ⟨x,H,(I.turned (t':=s.toks) (kA! (a4! (sb.2 b hb) e)) f0 f1 f3 f4 f5),ru,iq! (λys hy=>by rw[I.tuple_inj hy hq];exact hx),ay,cl! (hf b hb).1⟩)
 done:=by
  intro X hP hw hK hc i ae s O H E I hf st hg;subst hP hw hK;obtain⟨xs,hq,hx⟩:=hg;obtain⟨af,rv,p,hz⟩:=nr!;obtain⟨f0,f1,f2,f3,f4,f5⟩:=hf it (by simp);have hl:=rv.length;exact wpAny_pyNext_tuple_end hg! st (p) (by simp;lia) λh' eb=>iq! (I.turned (kA! (eb b o hb e)) f0 f1 f3 f4 f5)
 self:=λ_ _ _ _ _ st h=>wpAny_pyIter_tupleiter st h
theorem zeL{K:W.Frag} (it:Addr) (lo:Int) (n:Nat):zji P w K tg (Itr lo n) [it] it (λi h=>IsRangeIter h it (lo+dX! i*1) (h! n-dX! i) 1) where
 mem:=by simp
 obj:=λi h st b hb=>by
  have e:b=it:=by simpa using hb
  subst e;exact bM! st (λv z=>by cases z)
 keep:=λi h h' st k=>k it (by simp) _ st;item:=by
  intro X hP hw hK hc i ae s O H E I hf st hg;subst hP hw hK;obtain⟨f0,f1,f2,f3,f4,f5⟩:=hf it (by simp);refine (Walks.range (prog:=X.prog) (w:=X.w) hg! it lo 1 n).item i s _ _ hg st λv h' tk hv ay kk=>?_;obtain⟨t,rfl⟩:=hv;have I1:lL! ({s with heap:=h',toks:=tk}):=I.turned (kA! (kk b o (by simpa using hb) e)) f0 f1 f3 f4 f5;refine aC! _ (ziL ay rfl rfl (by decide) ⟨d! (lo+i),H,I1,as! t ?_,co! rfl,ay,cl! (hf b hb).1⟩);rw[Int.mul_one]
 done:=by
  intro X hP hw hK hc i ae s O H E I hf st hg;obtain⟨f0,f1,f2,f3,f4,f5⟩:=hf it (by simp);exact wpAny_pyNext_range_end hg! st (by have:n<=i:=hg;lia) λh' eb=>iq! (I.turned (kA! (eb b o hb e)) f0 f1 f3 f4 f5)
 self:=λ_ _ _ _ _ st h=>wpAny_pyIter_rangeiter st h
section
variable {X:Cx}{tg:Expr}
theorem zdg{ae:de!}{O:St}{H:Hp}{s:Shared}{R:It->bQ!}{E:bX!}{lo hi:Int}{t u v:Tok}{tk:Nat}(I:K!)(h1:-(2 ^ 62)<=lo)(h2:lo<2 ^ 62)(h3:-(2 ^ 62)<=hi)(h4:hi<2 ^ 62) (q:R (Itr lo (hi-lo).toNat) H):lN! (pyIter fV!) (PIE X ae O tg R) E ({s with heap:=id! ({cls:=lS!,data:=eJ! #[b7! lo,bx! hi u,bx! 1 v]}),toks:=tk}):=by
 refine wpAny_pyIter_range (IsRange.new ..) (small_one h1 h2 h3 h4) ?_;have I1:lL! ({s with heap:=id! ({cls:=lS!,data:=eJ! #[b7! lo,bx! hi u,bx! 1 v]}),toks:=tk}):=mf! (l1! _ e);refine⟨eb! (id! ({cls:=lS!,data:=eJ! #[b7! lo,bx! hi u,bx! 1 v]})),[eb! (id! ({cls:=lS!,data:=eJ! #[b7! lo,bx! hi u,bx! 1 v]}))],_,_,H,rfl, n1! (l1! _ e),zeL _ lo (hi-lo).toNat,?_,cl! ?_,q⟩
 ·have e1:lo+dX! 0*1=lo:=by simp
  rw[e1,(show (fc! (hi-lo):Nat)-dX! 0=Builtin.Range.rangeSize lo hi 1 from by rw[rangeSize_one];split<;>lia)];exact g2!
 ·have e:b=eb! (id! ({cls:=lS!,data:=eJ! #[b7! lo,bx! hi u,bx! 1 v]})):=by simpa using hb
  subst e;exact rN! al! al!
def zrw(ta:TA):TI:=λO H R=>ta O H λvs H1=>∃j:Int,vs=[d! j]/\-(2 ^ 62)<=j/\j<2 ^ 62/\R (Itr 0 kB!) H1
def zsl(ta:TA):TI:=λO H R=>ta O H λvs H1=>∃i j:Int,vs=bW! i j/\(-(2 ^ 62)<=i/\i<2 ^ 62/\-(2 ^ 62)<=j/\j<2 ^ 62)/\R (Itr i (j-i).toNat) H1
theorem zi0(hg:oR!)(hm:dF! fr!)(ha:PA X [a] ta)(hs:A! (aw! [a]=[dY! a])):PI X tg (dl! fr! p [a]) (zrw ta):=by
 refine λae s O H R I h=>Call_ (z1z I hg hm boot_range (_aa (thn (ha pos ae s O H _ I h) λus s1 ⟨vs,H1,I1,r1,q1⟩=>?_) hs rfl));obtain⟨j,e,q1,q2,q⟩:=q1;subst e;cases r1 with | cons r rr=>
  cases rr;obtain⟨t,rfl⟩:=r;exact call_range_1 (zdg I1 (by lia) (by lia) q1 q2 (by simpa using q))
theorem zgt{p pos:Pos}(hg:oR!)(hm:dF! fr!)(ha:PA X [a,b] ta)(hs:A! (aw! [a,b]=[dY! a,dY! b]))(bT:A! (aw! [b]=[dY! b])): PI X tg (dl! fr! p [a,b]) (zsl ta):=by
 refine λae s O H R I h=>Call_ (z1z I hg hm boot_range (_aa (thn (ha pos ae s O H _ I h) λus s1 ⟨vs,H1,I1,r1,q1⟩=>?_) (by rw[hs,bT]) (by rw[bT];rfl)));obtain⟨i,j,e,⟨q1,q2,q3,q4⟩,q⟩:=q1;subst e;cases r1 with | cons r rr=> cases rr with | cons r' rr=>
   cases rr;obtain⟨t,rfl⟩:=r;obtain⟨t',rfl⟩:=r';exact call_range_2 (zdg I1 q1 q2 q3 q4 q)
def zvs(wi:TI)(g:TG)(tb:TS):TS:=lq! (wi O H λJ H1=>∃W:Nat->Nat->St->Hp->Prop,(∃m,W 0 m O H1)/\∀i m O H,W i m O H-> (J.stop i H/\D.nx O H)\/(J.go i H/\∃N:St->Hp->Prop,(∀O' H',N O' H'->∃m',m'<m/\W (i+1) m' O' H')/\∀x H',J.yld i H x H'->g x O H' λO2 H2=>tb {D with nx:=N,ct:=N,bk:=D.nx} O2 H2))
noncomputable def zbs(fp:an!)(h:Heap):de!:=fp.filterMap λb=>(pY! b).map λo=>(b,o)
theorem jI(hb:b∈fp)(e:cG! b):(b,o)∈zbs fp h:=_cJ.mpr ⟨b,hb,by rw[e];rfl⟩
theorem zgG(hp:p∈zbs fp h):p.1∈fp/\eu! p.1 p.2:=by
 obtain⟨b,hb,e⟩:=_cJ.mp hp;cases q:pY! b with
 | none=>rw[q]at e;cases e | some o=>
  rw[q]at e;have e' := _p e;subst e';exact as! hb q
theorem Inv.pinned{O:St} (I:K!)(hf:∀b∈fp,zbK X ae H b)(ho:∀b∈fp,∃o,dm! b/\∀v,ib!≠.cell v):Inv X (ae++zbs fp F!) O H s:= I.pins_of (bq! (mK! hp (λz=>k8! (_O _ z)) (λz=>by
  obtain⟨hb,e⟩:=zgG z;obtain⟨f0,f1,f2,_⟩:=hf p.1 hb;obtain⟨o,e',d⟩:=ho p.1 hb;rw[e]at e';cases e';exact⟨e,f0,f1,f2,d⟩)))
theorem Inv.unpinned{O:St} (I:Inv X (ae++pl) O H s):K!:=I.pins_of (bq! (k8! (_O _ (_ba _ hp))))
theorem zpD(hp:PassesOwn (oH! X.w) X.A aX! X.xe)(hc:b2!)(hi:PI X tg ic! wi)(hg:PG X tg g)(hb:PSs X dT! tb) (hs:lc! (k4! x=lb!)):PS X (.For tg ic! dT! [] pos) (zvs wi g tb):=by
 refine na! (wpAny_For (thn (hi ae s O H _ I h) λv s1 h1=>thn h1 λeK s2 h2=>?_) hs);obtain⟨it,fp,tn,J,H2,e,I2,T,bj,f2,W,⟨m0,w0⟩,turn⟩:=h2;subst e;have bF:∀{H':Hp},(∀b∈fp,f3! b)->∀b∈fp,zbK X ae H' b:=λhn b hb=>⟨hn b hb,(f2 b hb).2⟩;refine codeAny_forLoop_any (λn s'=>∃i O' H',kO! O' H' s'/\tn i gH!/\(∀b∈fp,f3! b)/\W i n O' H') ?_ m0 ⟨0,O,H2,I2,bj,cl! (f2 b hb).1,w0⟩;rintro n s3 ⟨i,O3,H3,I3,cD,iX,w3⟩;rcases turn i n O3 H3 w3 with⟨stop,qn⟩ | ⟨go,N,hN,step⟩
 ·refine _a7 hp (thn (T.done X rfl rfl rfl hc i ae s3 O3 H3 X.xe I3 (bF iX) cD stop) λr s4 ⟨hr,I4⟩=>?_);subst hr;exact _cs ⟨O3,H3,I4,qn⟩
 ·refine _a7 hp (thn (T.item X rfl rfl rfl hc i ae s3 O3 H3 X.xe I3 (bF iX) cD go) λr s4 ⟨u,hr,h4⟩=>?_);subst hr;refine _a7 hp (thn h4 λ_ s5 ⟨x,H5,I5,r5,y5,gH,me⟩=>(_a7 hp (thn (hg _ s5 O3 H5 x u _ (I5.pinned (bF me) (T.obj _ _ gH)) r5 (step x H5 y5)) λ_ s6 ⟨O6,H6,I6,q6⟩=>?_)));refine _a7 hp (thn (hb _ s6 O6 H6 _ I6 q6) λf s7 q7=>?_);have again:∀{O7:St}{H7:Hp},Inv X (ae++zbs fp s5.heap) O7 H7 s7->N O7 H7->∃m,m<n/\∃i O' H',kO! O' H' s7/\tn i s7.heap/\(∀b∈fp,f3! b)/\W i m O' H':=λ{O7 H7} I7 n7=>by
   obtain⟨m',hm,w7⟩:=hN O7 H7 n7;refine⟨m',hm,i+1,O7,H7,I7.unpinned,T.keep _ _ _ gH (o7! (I7.pin (b,o) (_O _ (_O _ (jI hb e)))).1),cl! ?_,w7⟩;obtain⟨o,e,d⟩:=T.obj _ _ gH b hb;exact (I7.pin (b,o) (_O _ (_O _ (jI hb e)))).2.1
  cases f with
  | next=>obtain⟨O7,H7,I7,n7⟩:=q7;exact again I7 n7 | cont=>obtain⟨O7,H7,I7,n7⟩:=q7;exact again I7 n7 | brk=>obtain⟨O7,H7,I7,q7⟩:=q7;exact ck! O7 H7 I7.unpinned q7 | ret v=>obtain⟨x7,O7,H7,I7,r7,q7⟩:=q7;exact⟨x7,O7,H7,I7.unpinned,r7,q7⟩
end
abbrev R2:=V->V->Hp->eA!
def OpR(X:Cx)(f:dR!->dR!->Sem dR!)(r:R2):g!:= ∀(ae:List (Addr×Obj))(s:Shared)(O:St)(H:Hp)(x y:V)(v u:Value)(Q:VK),K!->ww x v->ww y u->r x y H Q-> bO! (f v u) (EP X ae O Q) s
def UnR(X:Cx)(f:dR!->Sem dR!)(r:V->Hp->eA!):g!:= ∀(ae:List (Addr×Obj))(s:Shared)(O:St)(H:Hp)(x:V)(v:Value)(Q:VK),K!->ww x v->r x H Q-> bO! (f v) (EP X ae O Q) s
def wa(X:Cx)(f:Value)(r:aG!->Hp->eA!):g!:= ∀(ae:List (Addr×Obj))(s:Shared)(O:St)(H:Hp)(xs:List V)(us:List Value)(Q:VK),K!->i7!->r xs H Q-> bO! (call f us) (EP X ae O Q) s
def tOp(r:R2)(ta tb:TE):TE:=gI! (ta O H (hG! (tb O H1 λy H2=>r x y H2 Q)))
def tUn(r:V->Hp->eA!)(ta:TE):TE:=gI! (ta O H (hG! (r x H1 Q)))
def rI(C:Int->Int->g!)(g:Int->Int->V):R2:=hI! (∃i j,x=aa!/\y=d! j/\C i j/\Q (g i j) H)
def rI0(g:Int->Int->V):R2:=hI! (∃i j,x=aa!/\y=d! j/\Q (g i j) H)
def rU(g:Int->V):V->Hp->eA!:=λx H Q=>∃i,x=aa!/\Q (g i) H
section
variable {X:Cx}{a b c:Expr}{ta tb tc:TE}{pos:Pos}
theorem ztq(ha:S! a ta)(hb:S! b tb) {O:St} {R:V->V->bQ!}(I:K!) (h:ta O H (hG! (tb O H1 λy H2=>R x y H2))) {f:dR!->dR!->Sem dR!} (hf:∀v u s2 x y H2,cI! H2 s2->ww x v->ww y u->R x y H2->bO! (f v u) Q s2): bO! (hc! a) (λv s₁=>bO! (hc! b) (λu s₂=>bO! (f v u) Q md!) jo!) s:=by exact thn (ha ae s O H _ I h) λv s1 ⟨x,H1,I1,r1,q1⟩=>(thn (hb ae s1 O H1 _ I1 q1) λu s2 ⟨y,H2,I2,r2,q2⟩=>(hf v u s2 x y H2 I2 r1 r2 q2))
theorem zrg(ho:gv! op r)(ha:S! a ta)(hb:S! b tb):S! (.BinOp a op b pos) (tOp r ta tb):=iI! (wpAny_BinOp (ztq ha hb I h λv u s2 x y H2 I2 rx ry q=>ho ae s2 O H2 x y v u Q I2 rx ry q))
theorem zqk(ho:UnR X (unaryOp op) r)(ha:S! a ta):S! (.UnaryOp op a pos) (tUn r ta):=iI! (UnaryOp_ (thn (ha ae s O H _ I h) λv s1 ⟨x,H1,I1,r1,q1⟩=>ho ae s1 O H1 x v Q I1 r1 q1))
theorem opI{g:Int->Int->Int} (rule:∀(i j:Int) (t u:Tok) (s:Shared) (Q:Value->Shared->Prop) (E:Value->Shared->Prop),C i j->Q (bx! (g i j) fQ!) {s with toks:=fQ!+1}->lN! (f (b7! i) (bx! j u)) Q E s): OpR X f (rI C (mF! (g i j))):=by
 intro ae s O H x y v u Q I rx ry h;obtain⟨i,j,rfl,rfl,hc,q⟩:=h;obtain⟨t,rfl⟩:=rx;obtain⟨t',rfl⟩:=ry;exact rule i j t t' s _ _ hc ⟨d! (g i j),H,it!,co! _,q⟩
theorem zui{g:Int->Int->Int} (rule:∀(i j:Int) (t u:Tok) (s:Shared) (Q:Value->Shared->Prop) (E:Value->Shared->Prop),Q (bx! (g i j) fQ!) {s with toks:=fQ!+1}->lN! (f (b7! i) (bx! j u)) Q E s): OpR X f (rI0 (mF! (g i j))):=by
 intro ae s O H x y v u Q I rx ry h;obtain⟨i,j,rfl,rfl,q⟩:=h;obtain⟨t,rfl⟩:=rx;obtain⟨t',rfl⟩:=ry;exact rule i j t t' s _ _ ⟨d! (g i j),H,it!,co! _,q⟩
theorem zrb{g:Int->eC! Int} (rule:∀(i j:Int)(t u:Tok)(s:Shared)(Q:Value->Shared->Prop)(E:Value->Shared->Prop),Q (.bool (g i j)) s->lN! (f (b7! i) (bx! j u)) Q E s): OpR X f (rI0 λi j=>.bl (g i j)):=by
 intro ae s O H x y v u Q I rx ry h;obtain⟨i,j,rfl,rfl,q⟩:=h;obtain⟨t,rfl⟩:=rx;obtain⟨t',rfl⟩:=ry;exact rule i j t t' s _ _ (bn! (.bl (g i j)) H I q)
def zuV(i j:Int):g!:=0<=j/\j<=1000000/\hJ!<2 ^ 64
theorem zpC:gv! .Add (rI0 (mF! (i+j))):=zui (qf! (add_int q))
theorem zoD:gv! .Sub (rI0 (mF! (i-j))):=zui (qf! (sub_int q))
theorem zoQ:gv! .Mod (rI (λ_ j=>0<j) (mF! (i % j))):=opI λi j _ _ _ _ _ hc q=>mod_int' (by lia) (by rw[Int.fmod_eq_emod_of_nonneg i (by lia)];exact q)
theorem zql:gv! .Pow (rI zuV (mF! (i ^ kB!))):=opI λ_ _ _ _ _ _ _ hc q=>pow_int_small hc.1 hc.2.1 hc.2.2 q
theorem unI{g:Int->Int} (rule:∀(i:Int) (t:Tok) (s:Shared) (Q:Value->Shared->Prop) (E:Value->Shared->Prop),Q (bx! (g i) fQ!) {s with toks:=fQ!+1}->lN! (f (b7! i)) Q E s): UnR X f (rU λi=>d! (g i)):=by
 intro ae s O H x v Q I rx h;obtain⟨i,rfl,q⟩:=h;obtain⟨t,rfl⟩:=rx;exact rule i t s _ _ ⟨d! (g i),H,it!,co! _,q⟩
theorem zl1:UnR X (unaryOp .USub) (rU λi=>d! (-i)):=unI λ_ _ _ _ _ q=>neg_int q
end
section
variable {X:Cx}{a b c:Expr}{ta tb tc:TE}{pos:Pos}
theorem zpd{O:St} (I:K!)(q:Q (.bl k) H)(e:k=k'):EP X ae O Q (.bool k') s:=by
 subst e;exact bn! (.bl k) H I q
theorem ztj:dP! .Lt (rI0 λi j=>.bl (ey! i j)):=zrb (qf! (lt_int q))
theorem zrj:dP! .LtE (rI0 λi j=>.bl (jd! i j)):=zrb (qf! (le_int q))
theorem zsf:dP! .Gt (rI0 λi j=>.bl (ey! j i)):=zrb (qf! (gt_int q))
theorem zsA:dP! .GtE (rI0 λi j=>.bl (jd! j i)):=zrb (qf! (ge_int q))
theorem zoo:dP! .Is (hI! (y=aJ!/\Q (.bl (ki! x aJ!)) H)):=by
 intro ae s O H x y v u Q I rx ry h;obtain⟨rfl,q⟩:=h;cases ry;refine is_none_gen (zpd I q ?_);cases x<;>(obtain⟨t,rfl⟩:=rx;rfl)
theorem OpR.or(h:OpR X f r)(h':OpR X f r'):OpR X f (hI! (r x y H Q\/r' x y H Q)):=by
 intro ae s O H x y v u Q I rx ry q;rcases q with q | q;·exact h ae s O H x y v u Q I rx ry q
 ·exact h' ae s O H x y v u Q I rx ry q
theorem zlI(b:Expr) (h:j5! (op≠.In))(h2:j5! (op≠.NotIn)):pL! b=r!:=by
 have e2:(op==CmpOp.NotIn)=r!:=by cases op<;>first | rfl | exact fe! h2
 cases b<;>simp[behindInMarks,(show (op==CmpOp.In)=r! from by cases op<;>first | rfl | exact fe! h),e2]
theorem zhy(ho:dP! op r)(ha:S! a ta)(hb:S! b tb)(hm:pL! b=r!):S! (.Compare a [op] [b] pos) (tOp r ta tb):=iI! (wpAny_Compare1 (ztq ha hb I h λv u s2 x y H2 I2 rx ry q=>ho ae s2 O H2 x y v u Q I2 rx ry q) hm)
def zpt(t:TE):TT:=kZ! O H (λx H'=>∃k,x=.bl k/\Q k H')
theorem zmB(ho:dP! op r)(ha:S! a ta)(hb:S! b tb)(hm:pL! b=r!):PT X (.Compare a [op] [b] pos) (zpt (tOp r ta tb)):=by
 refine iI! (wpAny_isTrue_Compare1 (thn (ha ae s O H _ I h) λv s1 ⟨x,H1,I1,r1,q1⟩=>thn (hb ae s1 O H1 _ I1 q1) λu s2 ⟨y,H2,I2,r2,q2⟩=> thn (ho ae s2 O H2 x y v u _ I2 r1 r2 q2) λc s3 ⟨z,H3,I3,r3,k,e,q3⟩=>?_) hm);subst e;cases r3;exact _aV ⟨H3,I3,q3⟩
def zkR(r r':R2)(ta tb tc:TE):TE:=gI! (ta O H (hG! (tb O H1 λy H2=>r x y H2 λz H3=>∃k,z=.bl k/\ (aF! k (tc O H3 λw' H4=>r' y w' H4 Q) (Q cJ! H3)))))
theorem zjN(ho:dP! op r)(bY:dP! df r')(ha:S! a ta)(hb:S! b tb)(hc:S! c tc) (hm:autoParam (lastMarks [op,df] [b,c]=r!) aWu):S! (.Compare a [op,df] [b,c] pos) (zkR r r' ta tb tc):=by
 refine iI! (Compare_chain (thn (ha ae s O H _ I h) λv s1 ⟨x,H1,I1,r1,q1⟩=>chain_link (thn (hb ae s1 O H1 _ I1 q1) λu s2 ⟨y,H2,I2,r2,q2⟩=> thn (ho ae s2 O H2 x y v u _ I2 r1 r2 q2) λd s3 ⟨z,H3,I3,r3,k,e,q3⟩=>?_)) hm);subst e;cases r3;refine _aV ?_;cases k with
 | false=>exact ite_ff (bn! cJ! H3 I3 q3) | true=>exact ite_tt (chain_last (thn (hc ae s3 O H3 _ I3 q3) λw' s4 ⟨z',H4,I4,r4,q4⟩=>bY ae s4 O H4 y z' u w' Q I4 r2 r4 q4))
theorem zdy:dX! aW!<2 ^ 63:=by decide
theorem zeG:gv! .Add (hI! (∃i j,x=aI! i/\y=aI! j/\i.length+j.length<=aW!/\Q (aI! (i++j)) H)):=by
 intro ae s O H x y v u Q I rx ry h;obtain⟨i,j,rfl,rfl,hz,q⟩:=h;obtain⟨t,rfl⟩:=rx;obtain⟨t',rfl⟩:=ry;exact add_str (λt' tk=>⟨aI! (i++j),H,it!,co! _,q⟩) hz
theorem vals1(r:kl! [x]):∃u,us=[u]/\ww x u:=by cases r with | cons r1 r2=>cases r2;exact aC! _ r1
theorem vals2(r:kl! [x,y]):∃u w',us=[u,w']/\ww x u/\ww y w':=by cases r with | cons r1 r2=> cases r2 with | cons r3 r4=>cases r4;exact gR! _ _ r1 r3
theorem zj6:l2! X "abs" (∃i,xs=[aa!]/\Q (d! (am! (i<0) (-i) i)) H):=by
 intro ae s O H xs us Q I r h;obtain⟨i,rfl,q⟩:=h;obtain⟨u,rfl,t,rfl⟩:=k0!;exact call_abs_int λu tk=>⟨d! (am! (i<0) (-i) i),H,it!,co! _,q⟩
theorem zh0(hc:b2!):l2! X nC! (∃i j,xs=bW! i j/\Q (d! (am! (j > i) j i)) H):=by
 intro ae s O H xs us Q I r h;obtain⟨i,j,rfl,q⟩:=h;obtain⟨u,w',rfl,⟨t,rfl⟩,⟨t',rfl⟩⟩:=vals2 r;refine max_two_ints hg! λh' tk k=>⟨_,H,mf! k,?_,q⟩;by_cases hj:j > i;·rw[_i hj,_i hj];exact co! _
 ·rw[_q hj,_q hj];exact co! _
theorem zfO(hc:b2!):l2! X nD! (∃i j,xs=bW! i j/\Q (d! (am! (j<i) j i)) H):=by
 intro ae s O H xs us Q I r h;obtain⟨i,j,rfl,q⟩:=h;obtain⟨u,w',rfl,⟨t,rfl⟩,⟨t',rfl⟩⟩:=vals2 r;refine min_two_ints hg! λh' tk k=>⟨_,H,mf! k,?_,q⟩;by_cases hj:j<i;·rw[_i hj,_i hj];exact co! _
 ·rw[_q hj,_q hj];exact co! _
theorem zh9:wa X (ar! eo!) (λxs H Q=>(∃i,xs=[aa!]/\Q aa! H)\/∃k,xs=[.bl k]/\Q (d! (am! k 1 0)) H):=by
 intro ae s O H xs us Q I r h;rcases h with⟨i,rfl,q⟩ | ⟨k,rfl,q⟩
 ·obtain⟨u,rfl,t,rfl⟩:=k0!;exact call_int_int ⟨aa!,H,I,co! _,q⟩
 ·obtain⟨u,rfl,r1⟩:=k0!;cases r1;exact call_int_bool ⟨d! (am! k 1 0),H,it!,co! _,q⟩
end
structure ztK(h:Heap)(x dx C:Addr)(mA:Str->aS!):g! where
 obj:eu! x (W.instObj C dx)
 ns:h.Ns1 dx mA
 ne:dx≠x
theorem zhu{h:Heap} (n:h.Ns1 dx mA):∃od,eu! dx od/\∀name,W.lookIn iJ! od=b! (mA iJ!):=by
 obtain⟨o,es,ep,ho,hd,hk,_,hm⟩:=n;refine cr! ho (λname=>?_);have e:=hm iJ!;unfold nsFind findBy at e;rw[<- Array.find?_toList]at e;unfold W.lookIn;rw[hd];dsimp only;split
 ·rename_i y q;rw[q]at e;exact _at some e
 ·rename_i q;rw[q]at e
  rw[_q (by rw[(show es.toList.any (·.refKey)=r! from by
   rw[List.any_eq_false];intro y hy;obtain⟨z,t,gI⟩:=hk y (Array.mem_toList_iff.mp hy);simp[DictEntry.refKey,gI])];exact _az)];exact _at some e
theorem ztK.look(I:ztK h x dx C mA):∃od,W.InstAt h x (W.instObj C dx) C (b! od)/\∀name,W.lookIn iJ! od=b! (mA iJ!):= let ⟨od,ho,hl⟩:=zhu I.ns;⟨od,fg! I.obj rfl ho,hl⟩
section
variable {P:Program}{w:World}{H H':Hp}{h h':Heap}{a C dx:Addr}{fs dW:dD! V}
theorem zgR(hok:HOk P w H h)(e:ci! (.ins C dx fs)):∃mA,ztK h a dx C mA/\(∀f,ztP (fs.lookup f) (mA f))/\PySem.Within mA (fs.map (·.1))/\dv! fs.length/\H dx=b! (.own a):=by
 obtain⟨d,z,ne,ob,mA,n,r,q⟩:=((hok a _ e));exact⟨mA,aV! ob n ne,r,q,z,d⟩
end
structure Cls(K:W.Frag)(C:Addr):g! where
 pg:W.plainGet K C Str.empty=c!
 hd:W.hasDictIn K C=c!
 po:W.plainOver K C=c!
 sa:W.findIn K ap! "__setattr__"=b! (hV! "object.__setattr__")
theorem Cls.get{K:W.Frag} (c:Cls K C)(f:Str):W.plainGet K C f=c!:=c.pg
section
variable {X:Cx}{ae:de!}{O:St}{H:Hp}{s:Shared}{A:Around}{E:bX!}{Q:bX!}{c:Value}{b:Bool}
inductive zbX(K:W.Frag)(H:Hp):V->dR!->g! where | non:zbX K H aJ! (ar! "NoneType") | bl (x:Bool):zbX K H (.bl x) (ar! ia!) | int (i:Int):zbX K H aa! (ar! eo!) | str (x:Str):zbX K H aY! (ar! gc!) | flt (x:UInt64):zbX K H (.flt x) (ar! "float") | lst {a:Addr}{xs:aG!}(e:ci! cq!):zbX K H ac! db! | frz {a:Addr}{o:Obj}{xs:aG!}(e:ci! (d2! cq!)):zbX K H ac! db! | tup {a:Addr}{xs:aG!}(e:ci! ah!):zbX K H ac! dC! | dK {a:Addr}{ah:gm! Key V}(e:ci! gW!):zbX K H ac! ka! | dT {a:Addr}{ah:gm! (d9! Key) V}(e:ci! lf!):zbX K H ac! ka! | ins {a C dx:Addr}{fs:dD! V}(e:ci! (.ins C dx fs))(cl:Cls K C)(ha:W.findIn K ap! o2!=b! (b! ou!)) (hn:W.specialIn K ou! "__get__"=b! (hV! "getset_descriptor.__get__"))(fW:W.takesIn K ou!=b! c!) (hm:W.mroIn K C (ar! "object")=b! c!):zbX K H ac! ap!
theorem zgy(I:K!) (rx:ww x u) (ty:zbX X.K H x t) (e:mY! X.K t c=b! b) (h:∀tk,Q k7! {s with toks:=tk}): gh! aT! X.w A (pU! gF! [u,c]) Q E s:=by cases ty with
 | non=>cases (rx);exact la! W.kitx_none lr! e (λz=>nomatch z) h | bl y=>cases (rx);exact la! W.kitx_bool lr! e (λz=>nomatch z) h | int i=>obtain⟨t,q⟩:=(rx);cases q;exact la! W.kitx_int lr! e (λz=>nomatch z) h | str y=>obtain⟨t,q⟩:=(rx);cases q;exact la! W.kitx_str lr! e (λz=>nomatch z) h | flt y=>obtain⟨t,q⟩:=(rx);cases q;exact la! W.kitx_float lr! e (λz=>nomatch z) h | @lst a xs ea=>
  cases (rx);obtain⟨_,_,n,_,h1⟩:=(gV! a ea);exact la! W.kitx_list (b5! h1) e (λz=>nomatch z) h | @frz a ob xs ea=>
  cases (rx);obtain⟨_,_,_,n,_,h1⟩:=(gV! a ea);exact la! W.kitx_list (b5! h1) e (λz=>nomatch z) h | @tup a xs ea=>
  cases (rx);obtain⟨_,_,_,p⟩:=(gV! a ea);obtain⟨o,h1,h2,_⟩:=p;exact la! W.kitx_tuple (cr! h1 h2) e (λz=>nomatch z) h | @dK a ah ea=>
  cases (rx);obtain⟨_,_,vs,_,p⟩:=(gV! a ea);obtain⟨o,es,ep,h1,h2,_⟩:=p;exact la! W.kitx_dict (cr! h1 h2.1) e (λz=>nomatch z) h | @dT a ah ea=>
  cases (rx);obtain⟨_,_,xs,_,o,es,ep,h1,h2,_⟩:=(gV! a ea);exact la! W.kitx_dict (cr! h1 h2.1) e (λz=>nomatch z) h | @ins a C dx fs ea cl ha hn fW hm=>
  cases (rx);obtain⟨mA,Oo,_⟩:=zgR eL! ea;obtain⟨od,J,_⟩:=Oo.look;exact la! (W.kitx_own (cl.get _) cl.hd ha hn fW hm) J e (λz=>nomatch z) h
end
structure z1U(k:Nat)(A:Around):g! where
 hd:nq!
 dp:qg!+3*k+5<recursionLimit
 un:o8!+16*k+200<nc!
 gd:A.guards=b! []
theorem z1U.mono(r:hE! A)(h:j<=k):z1U j A:=⟨r.hd,by have:=r.dp;lia,by have:=r.un;lia,r.gd⟩
theorem z1U.deeper(r:z1U (k+1) A)(env:Env):hE! (A.deeper env):= ⟨r.hd,by have:=r.dp;show qg!+1+3*k+5<_;lia,by have:=r.un;show o8!+3+16*k+200<_;lia,r.gd⟩
theorem z1U.depth(r:hE! A):qg!<recursionLimit:=by have:=r.dp;lia
theorem z1U.units(r:hE! A):o8!+64<nc!:=by have:=r.un;lia
def zub:TA:=λ_ H Q=>Q [] H
def zs5(ta:TE)(tr:TA):TA:=gI! (ta O H (hG! (tr O H1 λxs H2=>Q (x::xs) H2)))
section
variable {X:Cx}{e:Expr}{es:aE!}{te:TE}{t:TA}{pos:Pos}
theorem z0y:PA X [] zub:=λ_ _ _ _ H Q I h=>_cZ ⟨[],H,I,cu!,h⟩
theorem wz(ha:S! e te)(hr:PA X es t)(hs:A! (aw! (e::es)=dQ!::iw!)):PA X (e::es) (zs5 te t):=by
 intro pos ae s O H Q I h;rw[hs];exact _cK (thn (ha ae s O H _ I h) λu s1 ⟨x,H1,I1,r1,q1⟩=>(thn (hr pos ae s1 O H1 _ I1 q1) λus s2 ⟨xs,H2,I2,r2,q2⟩=>⟨x::xs,H2,I2,eI! r1 r2,q2⟩))
def zva(t:TA):TE:=kZ! O H (λxs H1=>x!<=aW!/\∀p,H1 p=a!->Q b6! (upd H1 p ah!))
def zuG(t:TA):TE:=kZ! O H (λxs H1=>x!<=aW!/\∀p,H1 p=a!->Q b6! (upd H1 p cq!))
theorem zkQ(h:PA X es t):S! (hH! es x1 pos) (zva t):=by
 refine λae s O H Q I hq=>wpAny_Tuple_spliced (thn (h pos ae s O H _ I hq) λus s1 ⟨xs,H1,I1,r,z,q⟩=>⟨by rw[<- r.length];exact z,?_⟩);exact⟨w! iK!,upd H1 iK! ah!,I1.laid (λb u e=>_g _ e) al! ⟨z,us,r,⟨_,g2!,rfl,rfl,_,rfl⟩⟩,rfl,q _ (sJ! al!)⟩
theorem zlJ(h:PA X es t):S! (.List es pos) (zuG t):=by
 refine λae s O H Q I hq=>wpAny_List_spliced (thn (h pos ae s O H _ I hq) λus s1 ⟨xs,H1,I1,r,z,q⟩=>⟨by rw[<- r.length];exact z,?_⟩);exact⟨w! iK!,upd H1 iK! cq!,I1.laid (λb u e=>_g _ e) al! ⟨z,us,0,r,g2!⟩,rfl,q _ (sJ! al!)⟩
end
abbrev Sp:=aG!->Hp->VK->XK->g!
abbrev CXT:=mH!->Hp->nR!->XK->bX!
structure zr2(P:Program)(w:World)(K:W.Frag)(mg:Str->aS!)(base:Heap)(A:Around)(outer:mH!)(s:Shared)(H:Hp):g! where
 frames:A.frames=b! au!
 mod:Mod K mg O!
 bs:bG! (base.get? b=b! o->dm! b/\e8!)
 bsz:base.objs.size<=at!
 funs:s.heap.FunFrames O! au!
 frf:∀b∈mD!,e8!
 hok:HOk P w H F!
 bare:rB! s.gens
def CE(outer:mH!)(P:Program)(w:World)(H:Hp)(s:Shared)(Q:VK)(u:Value)(s':Shared):g!:= ∃v H',p9!=s.os/\rf!/\Un mD! [] H H' F! gH!/\HOk P w H' gH!/\ww v u/\Q v H'
def CR(CX:CXT)(outer:mH!)(P:Program)(w:World)(H:Hp)(s:Shared)(Q:VK)(E:XK)(r:Result)(s':Shared):g!:= match r with
 | .ok (.ret u)=>CE au! P w H s Q u s' | .ok _=>False | .error e=>CX au! H s E e s'
structure z9e(P:Program)(w:World)(K:W.Frag)(mg:Str->aS!)(base:Heap)(CX:CXT)(k:Nat)(f:Addr)(fd:FuncData)(ps:aq!)(sp:Sp):g! where
 len:∀vs H Q E,sp vs H Q E->mu!
 run:∀(A:Around)(outer:List Env)(s:Shared)(H:Hp)(args:Args)(us:List Value)(vs:List V)(Q:VK)(E:XK),hE! A->zr2 P w K mg O! A au! s H->qh! s fd jU! l0!->kl! vs->sp vs H Q E-> kC! (model P w) A (.call fj! jU!) (CR CX au! P w H s Q E) s
theorem z9e.mono{P:Program}{w:World}{K:W.Frag}{mg:Str->aS!}{base:Heap}{CX:CXT}{j k:Nat}{f:Addr}{fd:FuncData}{ps:aq!}{sp:Sp}(F:z9e P w K mg O! CX j f fd ps sp)(h:j<=k): z9e P w K mg O! CX k f fd ps sp:=⟨F.len,λA outer s H args us vs Q E hr=>F.run A au! s H jU! us vs Q E (hr.mono h)⟩
theorem z9e.imp{P:Program}{w:World}{K:W.Frag}{mg:Str->aS!}{base:Heap}{CX:CXT}{k:Nat}{f:Addr}{fd:FuncData}{ps:aq!}{sp iY:Sp}(F:z9e P w K mg O! CX k f fd ps sp) (h:∀vs H Q E,iY vs H Q E->sp vs H Q E):z9e P w K mg O! CX k f fd ps iY:= ⟨λvs H Q E q=>F.len vs H Q E (h _ _ _ _ q),λA outer s H args us vs Q E hr he hb hv hs=>F.run A au! s H jU! us vs Q E hr he hb hv (h _ _ _ _ hs)⟩
section
variable {X:Cx}{ae:de!}{O:St}{H:Hp}{s s':Shared}
theorem Inv.env0(I:K!):zr2 aT! X.w X.K fu! fb! X.A jl! s H:= ⟨I.ok.frames,I.ok.mod,I.bs,_H I.ok.bsz I.sz,I.stack,I.stkFree,eL!,jn!⟩
theorem Inv.after(I:K!)(h:CE jl! aT! X.w H s Q u s'):EP X ae O Q u s':=by
 obtain⟨v,H',os,bare,un,hok,r,q⟩:=h;obtain⟨hh,g,d,t,mi⟩:=s';obtain rfl:mi=s.os:=os;exact⟨v,H',I.call un hok bare (λb z=>oX! (by simp)),r,q⟩
end
def zmn(sp:Sp)(bL:aG!)(E:XK)(t:TA):TE:=kZ! O H (λvs H1=>sp (vs++bL) H1 Q E)
def Binds(K:W.Frag)(fd:FuncData)(ps:aq!)(ds:bU!):g!:= ∀(s:Shared)(us:List Value),K.In F!->q! (us++ds)=a5!->qh! s fd (dG! us) (ps.zip (us++ds))
theorem Binds.all{K:W.Frag}{fd:FuncData}{ps:aq!}(h:∀us:List Value,iD!=a5!->qi! fd (dG! us)=dS! l0!):kp! K ps []:=λs us _ hl=>by
 rw[_aK]at hl ⊢;exact .of_eq (h us hl)
def Passes(CX:CXT)(X:Cx)(E:XK):g!:=∀(ae:List (Addr×Obj))(O:St)(H:Hp)(s:Shared)(e:Value)(s':Shared),K!->CX jl! H s E e s'->X.xe e s'
section
variable {X:Cx}{CX:CXT}{k:Nat}{f C:Addr}{fd:FuncData}{ps:aq!}{sp:Sp}{bL:aG!}{ds:bU!}{E:XK}{x m:Str}{p pos ao:Pos}{e o:Expr}{es:aE!}{ta:TE}{t:TA}
theorem zep{O:St} (F:z9e aT! X.w X.K fu! fb! CX k f fd ps sp)(hr:hE! X.A)(hb:kp! X.K ps ds)(hd:xl bL ds)(hx:kW! X E) (I:K!)(r:kl! vs)(h:sp (vs++bL) H Q E):bO! (call fj! us) (EP X ae O Q) s:=by
 have r2 := r.append hd;refine wpAny_call (_dE (F.run X.A jl! s H (dG! us) (us++ds) (vs++bL) Q E hr I.env0 (hb s us jp! (by rw[<- r2.length];exact F.len _ _ _ _ h)) r2 h) λr s' hq=>?_);cases r with
 | error e=>exact hx ae O H s e s' I hq | ok fl=> cases fl with
  | ret u=>exact I.after hq | next=>exact rh! | brk=>exact rh! | cont=>exact rh!
theorem zmp(F:z9e aT! X.w X.K fu! fb! CX k f fd ps sp) (hr:hE! X.A) (hg:e7!) (hm:X.mg x=b! fj!) (hk:oL! X.K=c!) (hb:kp! X.K ps ds) (hd:xl bL ds) (hx:kW! X E) (ha:PA X (e::es) t) (aG:ce! (x==cH!)) (he:A! (aw! (e::es)=dQ!::iw!)) (au:d4! es (·.1)): S! (dl! x p (e::es)) (zmn sp bL E t):=by
 intro ae s O H Q I h;refine _aq (z3F I hg hm (_dF I.ok.mod.kin hk (thn (ha pos ae s O H _ I h) λus s1 ⟨vs,H1,I1,r,q⟩=>as! I1.kIn ?_) he au) aG);exact zep F hr hb hd hx I1 r q
theorem ziw(F:z9e aT! X.w X.K fu! fb! CX k f fd ps sp)(hr:hE! X.A)(hg:e7!)(hm:X.mg x=b! fj!)(hk:oL! X.K=c!)(hb:kp! X.K ps ds)(hd:xl bL ds)(hx:kW! X E) (aG:ce! (x==cH!)):S! (dl! x p []) (zmn sp bL E zub):=by exact iI! (_aq (z3F I hg hm (W.callWith_K0 jp! hk (zep F hr hb hd hx I cu! h)) aG))
end
structure zq(N P:aq!)(sc:Scope):g! where
 kind:sc.kind=r7!
 co:sc.isCoroutine=r!
 gen:sc.isGenerator=r!
 nd:N.Nodup
 pre:N.take P.length=P
 par:∀x∈P,oy!=b! o4!\/oy!=ds!
 nofree:∀y∈sc.names,y.2≠bT!
theorem zb4{kindOf:Str->bm! ls!} : ∀{binds:List (Str×Value)}{m:Str->Option Value},(∀v,(x,v)∉binds)->bindL qj! binds m x=m x
 | [],_,_=>rfl | (n,v)::r,m,h=>by
  unfold bindL;rw[zb4 λw hw=>h w (_K _ hw)];split;·simp[(show x≠n from by rintro rfl;exact h v _aj)]
  ·rfl
theorem zbO{kindOf:Str->bm! ls!} : ∀{binds:List (Str×Value)}{m:Str->Option Value},(∀v,(x,v)∉binds)->bindC qj! binds m x=m x
 | [],_,_=>rfl | (n,v)::r,m,h=>by
  unfold bindC;rw[zbO λw hw=>h w (_K _ hw)];split;·rfl
  ·simp[(show x≠n from by rintro rfl;exact h v _aj)]
theorem zat{kindOf:Str->bm! ls!} : ∀{P:List Str}{vs:List Value}{i:Nat}{m:Str->Option Value},P.Nodup->aj! P x->aj! vs v->kindOf x=b! o4!-> bindL qj! (P.zip vs) m x=bP!
 | [],_,_,_,_,h,_,_=>by cases h | _::_,[],_,_,_,_,h,_=>by cases h | p::P,w::vs,0,m,nd,h1,h2,hk=>by
  simp at h1 h2;subst h1;subst h2;show bindL qj! ((p,w)::P.zip vs) m p=_;unfold bindL;rw[zb4 λv hv=>(_ct.mp nd).1 (_ad hv).1,_i hk];simp | p::P,w::vs,i+1,m,nd,h1,h2,hk=>by
  unfold bindL;exact zat (_ct.mp nd).2 (by exact h1) (by exact h2) hk
theorem zbH{kindOf:Str->bm! ls!} : ∀{P:List Str}{vs:List Value}{i:Nat}{m:Str->Option Value},P.Nodup->aj! P x->aj! vs v->kindOf x≠b! o4!-> bindC qj! (P.zip vs) m x=bP!
 | [],_,_,_,_,h,_,_=>by cases h | _::_,[],_,_,_,_,h,_=>by cases h | p::P,w::vs,0,m,nd,h1,h2,hk=>by
  simp at h1 h2;subst h1;subst h2;show bindC qj! ((p,w)::P.zip vs) m p=_;unfold bindC;rw[zbO λv hv=>(_ct.mp nd).1 (_ad hv).1,_q hk];simp | p::P,w::vs,i+1,m,nd,h1,h2,hk=>by
  unfold bindC;exact zbH (_ct.mp nd).2 (by exact h1) (by exact h2) hk
noncomputable def start(N:aq!)(vs:aG!):St:=vs.map some++ox! (N.length-dy!)
noncomputable def z4M(CX:CXT)(P:Program)(w:World)(K:W.Frag)(mg:Str->aS!)(base:Heap)(N:aq!)(qual:Str)(scope:Scope)(f:Addr)(cd:Value)(A:Around)(outer:mH!)(s:Shared)(H:Hp)(E:XK):Cx where
 prog:=P;w:=w;K:=K;mg:=mg;base:=base;A:=kf! av! by! f cd;N:=N;s₀:=s;H₀:=H;env:=pG! av! by! f cd;outer:=outer;stack:=pG! av! by! f cd::au!;ex:=[];calm:=A.handled.isNone;fn:=bf! c!;pn:=[];xe:=λe s'=>gh! P w (kf! av! by! f cd) (leaving (pG! av! by! f cd) e) (λ_ eM=>CX au! H s E e eM) (λe' eM=>CX au! H s E e' eM) s'
theorem z5a{sc:Scope} (h:oy!=ds!):∃c,i0! (sb! n sc.names []) x c:=Option.isSome_iff_exists.mp (_dn sc.names n [] (y! h))
theorem zaY{K:W.Frag} (S:zq N ps by!)(e0:zr2 P w K mg O! A au! s H)(hl:mu!)(r:kl! vs) (x:InCallC s at! (bindL (pG! av! by! f cd).kindOf l0! (bf! a!)) (mo! dO! []) (bindC (pG! av! by! f cd).kindOf l0! (bf! a!)) s1): Inv (z4M CX P w K mg O! N av! by! f cd A au! s H E) [] (oZ! N) H s1:=by
 have au:a5!<=N.length:=by have:=_at List.length S.pre;rw[_bE]at this;lia
 obtain⟨h1,tk,rfl,hk⟩:=x.done;have eN:∀b:Addr,b∉(z4M CX P w K mg O! N av! by! f cd A au! s H E).ex:=λb z=>bS! (show b∈([]) from z) (by simp);refine⟨⟨e0.mod,S.kind,rfl,rfl,al!,λy z c h1 h2=>(name_of_addr x.apart (_an h1) (_an h2)),cW! ?_,λy c _ h=>(_bh (x.above y c (_an h))),λh=>Option.isNone_iff_eq_none.mp h,Around.frames_deeper e0.frames,ef! rfl rfl,λb z=>oX! (eN b),e0.bs,e0.bsz,λb _ _=>eN b,λb z=>oX! (eN b),e0.funs,e0.frf⟩, rfl,e0.bare,Un.kept hk,bM! x.toInCall.ns (λi y v h1 h2 h3=>?_),λy c h=>c0! (x.cell y c h),e0.hok.fresh al!,λy c h=>(e0.hok.fresh (_bh (x.above y c (_an h)))),bq! (bS! (show p∈([]) from hp) (by simp)),e0.hok.kept hk,?_⟩
 ·rcases hy with hy | hy;·exact z5a hy
  ·exact fe! (S.nofree _ (_an hy))
 ·have hi:i<dy!:=by
   unfold start at h2;by_cases hi:i<dy!;·exact hi
   ·rw[_bx (by simpa using hi)]at h2;rw[_bd]at h2;split at h2<;>cases h2
  obtain⟨u,hu,rv⟩:=r.get (by
   unfold start at h2;rw[_I (by simpa using hi),_A]at h2;cases e:vs[i]? with
   | none=>rw[e]at h2;cases h2 | some a=>rw[e]at h2;cases h2;rfl);have hp:aj! ps y:=by rw[<- S.pre,_ak (by lia)];exact h1
  have iZ:ps.Nodup:=by rw[<- S.pre];exact S.nd.sublist (_c0 _ _)
  refine aV! u rv ?_;rcases S.par y (_w hp) with k | k;·exact y! ⟨k,zat iZ hp hu k⟩
  ·obtain⟨c,e⟩:=z5a k;refine Q! ⟨y! k,c,e,?_⟩;have q:=x.cell y c e;rw[zbH iZ hp hu (by show jV! y≠_;rw[k];decide)]at q;exact q
 ·unfold start;show _=N.length;rw[_ar,_z,_bt];lia
theorem zot{K:W.Frag} {dV kV aE pm aj ct oc:Value} (lk:mW! f=b! ⟨oc,od,.func (W.fnOf iJ! av! params dT! by! dV kV aE pm an aj ct),cE⟩)(bC:W.codeIn K aj av!=c!)(S:zq N ps by!) (len:∀vs H Q E,sp vs H Q E->mu!) (aZ:∀(A:Around)(outer:List Env)(s:Shared)(H:Hp)(vs:List V)(Q:VK)(E:XK),hE! (kf! av! by! f aj)->sp vs H Q E-> ∃t,PSs (z4M CX P w K mg O! N av! by! f aj A au! s H E) dT! t/\t {nx:=λ_ H'=>Q aJ! H',rt:=Q} (oZ! N) H): z9e P w K mg O! CX (k+1) f (W.fnOf iJ! av! params dT! by! dV kV aE pm an aj ct) ps sp:=by
 refine⟨len,λA outer s H args us vs Q E hr e0 hb r cF=>?_⟩;have KX := e0.mod.kin.keeps (gG! (e0.bs b o e).1);refine codeAny_call_function hr.depth (KX _ _ lk) rfl S.co S.gen rfl (W.codeRec_of KX bC) (hb _ _ _ _ (wpAny_newFunctionEnv_cells S.kind (λ⟨n,v⟩ hy=>by
  rcases S.par n (_ad hy).1 with q | q;·exact y! q
  ·exact ef! q (_dn _ _ _ (y! q))) λenv he s1 x=>?_));subst he;refine⟨(e0.mod.nolimit.keeps (gG! (e0.bs b o e).1)).keeps x.toInCall.keep,codeAny_func ?_⟩;obtain⟨t,ht,hq⟩:=aZ A au! s H vs Q E (hr.deeper _) cF;refine _Z (ht [] s1 (oZ! N) H _ (zaY S e0 (len _ _ _ _ cF) r x) hq) (λfl s' hs=>?_) λe s' hs=>hs;have fin:∀{O':St}{H':Hp}{v:V}{u:Value},Inv (z4M CX P w K mg O! N av! by! f aj A au! s H E) [] O' H' s'->ww v u->Q v H'->CE au! P w H s Q u s':= λ{O' H' v u} J rv q=>⟨v,H',J.os,J.bare,J.base,J.hok,rv,q⟩;cases fl with
 | ret u=>
  obtain⟨v,O',H',J,rv,q⟩:=hs;exact fin J rv q | next=>
  obtain⟨O',H',J,q⟩:=hs;exact fin (v:=V.non) J rfl q | brk=>
  obtain⟨_,_,_,q⟩:=hs;exact me! q | cont=>
  obtain⟨_,_,_,q⟩:=hs;exact me! q
section
variable {X:Cx}{x:Str}{p pos:Pos}{e:Expr}{es:aE!}{t:TA}{id T:String}{r:aG!->Hp->eA!}
def tCB(r:aG!->Hp->eA!)(t:TA):TE:=kZ! O H (λvs H1=>r vs H1 Q)
theorem z2O(hc:jA! X id r) (hg:e7!) (hm:dF! x) (hv:ll! x=hV! id) (ha:PA X (e::es) t) (hn:j5! (lT! x)) (aG:ce! (x==cH!)) (he:A! (aw! (e::es)=dQ!::iw!)) (au:d4! es (·.1)):S! (dl! x p (e::es)) (tCB r t):=by
 intro ae s O H Q I h;exact _aq (z1z I hg hm hv (PyProof.Rows.callWith_builtin1 (thn (ha pos ae s O H _ I h) λus s1 ⟨vs,H1,I1,r1,q1⟩=>hc ae s1 O H1 vs us Q I1 r1 q1) he au) hn aG)
theorem zhA(hc:wa X kn! r) (hg:e7!) (hm:dF! x) (hv:kP! x kn!) (ha:PA X (e::es) t) (hn:j5! (lT! x)) (aG:ce! (x==cH!)) (he:A! (aw! (e::es)=dQ!::iw!)) (au:d4! es (·.1)):S! (dl! x p (e::es)) (tCB r t):=by
 intro ae s O H Q I h;exact _aq (z1z I hg hm hv (_aa (thn (ha pos ae s O H _ I h) λus s1 ⟨vs,H1,I1,r1,q1⟩=>hc ae s1 O H1 vs us Q I1 r1 q1) he au) hn aG)
end
end L2
namespace HT
section
variable {prog:Program}{w:World}{A:Around}{E:bX!}{s:Shared}
theorem znj(ht:IsTup F! t eM!) (hb:IsTup F! b ws.toArray) (hv:a3! vs) (h1:ws=[]->Q (w! t) s) (h2:a3! ws->Q fV! {s with heap:=id! ({cls:=dC!,data:=oN! (vs++ws)})}) (bf:dy!+ws.length<=aW!):cB! w A (binaryOp .Add (w! t) (w! b)) Q E s:=by
 obtain⟨⟨cls,dd,data,sl⟩,ho,hc,n,hd⟩:=id ht;obtain⟨⟨gJ,fX,data2,cG⟩,dE,gK,n2,eP⟩:=id hb;subst hc hd gK eP;have e:eM!++ws.toArray=nb! (vs++ws):=by simp
 by_cases hw:ws=[]
 ·exact concat_meets (b5! ho) (b5! dE) _do seq_tuple_add _b1 _bW (_bP _ _) (tuple_addW1 t b eM! ws.toArray n n2 dd fX sl cG (by simpa using hv) (by simp[hw])) ⟨ho,dE,h1 hw⟩
 ·refine concat_meets (b5! ho) (b5! dE) _do seq_tuple_add _b1 _bW (_bP _ _) (tuple_addW2 t b eM! ws.toArray n n2 dd fX sl cG (by simpa using hv) (by simpa using hw) (bf)) ⟨ho,dE,?_⟩;rw[e];exact h2 hw
noncomputable def sIx(n d:Nat):dd!->Nat
 | none=>d | some v=>am! (v<0) (fc! (v+h! n)) (min v.toNat n)
theorem zdu(n d:Nat):sIx n d a!=d:=rfl
theorem zgJ(n d k:Nat):sIx n d (b! (h! k))=min k n:=by
 show (am! (k<0) (fc! (h! k+n)) (min (h! k).toNat n))=min k n;rw[_q (by lia),_V]
theorem zuh(n d:Nat)(hd:d<=n)(o:dd!):sIx n d o<=n:=by cases o with
 | none=>exact hd | some v=>
  show (am! (v<0) (fc! (v+n)) (min v.toNat n))<=n;by_cases hv:v<0;·rw[_i hv];lia
  ·rw[_q hv];exact Nat.min_le_right _ _
theorem zfV(v:Int)(n d:Nat):(am! (v<0) (max (v+h! n) 0) (min v (h! n)))=Z! (sIx n d bP!):=by
 show (am! (v<0) (max (v+n) 0) (min v n))=((am! (v<0) (fc! (v+n)) (min v.toNat n)):Nat);by_cases hv:v<0;·simp only[_i hv];lia
 ·simp only[_q hv];lia
theorem zeH(lo hi:dd!)(n:Nat):Builtin.Slice.sliceAdjust lo hi 1 (h! n)=(Z! (sIx n 0 lo),h! (sIx n n hi)):=by
 refine Prod.ext ?_ ?_;·cases lo with
  | none=>rfl | some v=>exact zfV v n 0
 ·cases hi with
  | none=>rfl | some v=>exact zfV v n n
theorem zf2(i j:Nat):qk! (h! i) (h! j) 1=j-i:=by
 unfold Builtin.Slice.slicePlaces;split<;>lia
theorem z8B(p:n2! v o)(h:Q o s):cB! w A (Builtin.Slice.slicePartIndex v) Q E s:=by cases p with
 | none=>exact _cM h | int i t=>exact slicePart_int h
theorem kW{sl:Addr}{vl vu:Value}{lo hi:dd!}{n:Nat}{Q:Int×Int×Nat->ev!}(hs:rT! vl vu X!)(pl:n2! vl lo)(pu:n2! vu hi) (h:Q (Z! (sIx n 0 lo),1,sIx n n hi-sIx n 0 lo) s):cB! w A (Builtin.Slice.sliceApplied (w! sl) (dS! (h! n))) Q E s:=by
 obtain⟨os,bZ,cV,cR⟩:=id hs;refine _a (_a (pT! bZ cR (_a (pT! bZ cR (_a (pT! bZ cR (_m (_a (_cM (_a (z8B pl (_a (z8B pu (_a (_m ?_)))))))))))))));show fG! _ _ (match Builtin.Slice.sliceAdjust lo hi 1 n with | (lo,hi)=>dS! (lo,h! 1,qk! lo hi 1)) _ _;rw[zeH lo hi n];show fG! _ _ (dS! (h! (sIx n 0 lo),1,qk! (sIx n 0 lo) (sIx n n hi) 1)) _ _;rw[zf2];exact _m h
theorem zjF(xs:cz!)(i k:Nat):nb! (rR! k (λ(m:Nat)=>xs[(h! i+h! m*1).toNat]?))=nb! ((xs.toList.drop i).take k):=by
 have e:(λ(m:Nat)=>xs[(i+h! m*1).toNat]?)=λm=>xs[i+m]? := by
  funext m;rw[(show fc! (h! i+m*1)=i+m from by lia)]
 rw[e];have:=pick_run xs i k;rw[List.filterMap_map]at this;have e2:((λx=>xs[x]?) ∘ λx=>i+x)=λm=>xs[i+m]? := rfl;rw[e2]at this;rw[this]
theorem z3j{lo hi:dd!} (ht:IsTup F! t g8!) (hs:rT! vl vu X!) (pl:n2! vl lo) (pu:n2! vu hi) (hw:¬ (lQ! 0 lo=0/\lQ! hK! hi=hK!)) (h:Q fV! {s with heap:=id! ({cls:=dC!,data:=oN! ((items.toList.drop (lQ! 0 lo)).take (lQ! hK! hi-lQ! 0 lo))})}) (bf:hK!<=aW!):cB! w A (getItem (w! t) (w! sl)) Q E s:=by
 obtain⟨os,bZ,cV,cR⟩:=id hs;unfold getItem;try with_reducible refine _aT ?_
 refine _a (_c1 lu! (by decide) (_a (_af lu! _P (_aw _P lu! _cy ?_ (_cN _ _)))));show fG! _ _ (Builtin.Tuple.tupleItemsOf (w! t) >>= _) _ _;refine _a (tupleItemsOf_ ht ?_);refine _a (_dG ⟨os,bZ,cV⟩ (_a (kW hs pl pu ?_)));show fG! _ _ (aF! (h! (lQ! 0 lo)==0&&1==1&&(lQ! hK! hi-lQ! 0 lo)==hK!) _ _) _ _;rw[_q (by
  intro q;rw[_R,_R]at q;have q1 := eq_of_beq q.1.1;have q2 := eq_of_beq q.2;exact hw ⟨by lia,by lia⟩),zjF];exact _a (_aG (_m (aC! _ (_m h))) (by
  show ((items.toList.drop (lQ! 0 lo)).take (lQ! hK! hi-lQ! 0 lo)).toArray.size<=aW!;rw[_s,_bE,_ax,_aY];lia))
end
end HT
namespace L2
abbrev TO:=St->Hp->(dd!->bQ!)->g!
def PO(X:Cx)(e:r1!)(t:TO):g!:= ∀(ae:List (Addr×Obj))(s:Shared)(O:St)(H:Hp)(Q:Option Int->Hp->Prop),K!->t O H Q-> bO! (evalPart e aX!) (λu s'=>∃o H',cI! H' s'/\n2! u o/\Q o H') s
def znM:TO:=λ_ H Q=>Q a! H
def zrV(t:TE):TO:=kZ! O H (hG! (∃i,x=aa!/\Q h0! H1))
section
variable {X:Cx}{e:Expr}{te:TE}{lo hi:r1!}{tl th:TO}{pos p2:Pos}
theorem zgC:PO X a! znM:=by exact iI! (_m ⟨a!,H,I,X!,h⟩)
theorem zni(h:S! e te):PO X z! (zrV te):=by
 refine λae s O H Q I hw=>thn (h ae s O H _ I hw) λu s1 ⟨x,H1,I1,r1,q1⟩=>?_;obtain⟨i,rfl,q⟩:=q1;obtain⟨t,rfl⟩:=r1;exact⟨h0!,H1,I1,b7! i,q⟩
def SlR(X:Cx)(r:V->dd!->dd!->Hp->eA!):g!:= ∀(ae:List (Addr×Obj))(s:Shared)(O:St)(H:Hp)(x:V)(v vl vu:Value)(lo hi:Option Int)(sl:Addr)(Q:VK),K!->ww x v->rT! vl vu X!->n2! vl lo->n2! vu hi->r x lo hi H Q-> ∃T id,typeLookup kn! "__getitem__"=dS! (hV! id)/\pa! v T/\bO! (getItem v (w! sl)) (EP X ae O Q) s
theorem SlR.or(h:SlR X r)(h':SlR X r'):SlR X (ql! (r x lo hi H Q\/r' x lo hi H Q)):=by
 intro ae s O H x v vl vu lo hi sl Q I rx hs pl pu q;rcases q with q | q;·exact h ae s O H x v vl vu lo hi sl Q I rx hs pl pu q
 ·exact h' ae s O H x v vl vu lo hi sl Q I rx hs pl pu q
def tSl(r:V->dd!->dd!->Hp->eA!)(te:TE)(tl th:TO):TE:=gI! (te O H (hG! (tl O H1 λl H2=>th O H2 λu H3=>r x l u H3 Q)))
theorem zdJ(hr:SlR X r)(he:S! e te)(hl:PO X lo tl)(hu:PO X hi th):S! (mw! e (.Slice lo hi a! p2)) (tSl r te tl th):=by
 intro ae s O H Q I h;refine Subscript_ (thn (he ae s O H _ I h) λv s1 ⟨x,H1,I1,r1,q1⟩=>(wpAny_Slice (thn (hl ae s1 O H1 _ I1 q1) λvl s2 ⟨l,H2,I2,pl,q2⟩=>thn (hu ae s2 O H2 _ I2 q2) λvu s3 ⟨u,H3,I3,pu,q3⟩=>(_m ?_))));have I4:cI! H3 ({s3 with heap:=s3.heap.push {cls:=ar! "slice",data:=eJ! #[vl,vu,X!]}}):=I3.kept λb ob q=>_g _ q;obtain⟨T,id,hT,ht,hg⟩:=hr ae {s3 with heap:=s3.heap.push {cls:=ar! "slice",data:=eJ! #[vl,vu,X!]}} O H3 x v vl vu l u s3.heap.objs.size Q I4 r1 (Heap.IsSliceOf.new ..) pl pu q3;exact tail_any ht hT hg (by with_unfolding_all rfl)
noncomputable def zod(xs:aG!)(lo hi:dd!):aG!:=(lk! (ih! 0 lo)).take (ih! x! hi-ih! 0 lo)
theorem z5M(xs:aG!)(lo hi:dd!):q! (zod xs lo hi)<=x!:=by
 unfold zod;rw[_bE,_ax];lia
def zvp(K:W.Frag):V->dd!->dd!->Hp->eA!:=ql! (∃a xs,x=ac!/\eG! K a xs/\ ¬ (ih! 0 lo=0/\ih! x! hi=x!)/\∀p,gB!->Q b6! (fL! (p! (zod xs lo hi))))
theorem zpi:SlR X (zvp X.K):=by
 intro ae s O H x v vl vu lo hi sl Q I rx hs pl pu h;obtain⟨a,xs,rfl,hx,hw,q⟩:=h;cases rx;obtain⟨af,r,ht,hz⟩:=lp! hx;have ap:iL!=x!:=r.length.symm;refine⟨cV!,_,_P.lookup,lu!,(HT.z3j ht hs pl pu (by rw[ap];exact hw) ?_ (by rw[ap];exact hz))⟩;rw[ap];refine bn! fV! _ (I.laid (λb ob q=>_g _ q) al! ?_) (q _ (mq! _));exact⟨_H (z5M xs lo hi) hz,_,(n4! (ih! 0 lo)).take (ih! x! hi-ih! 0 lo),zfo.new _ _⟩
def zrX(K:W.Frag):R2:=hI! (∃a b xs ys,x=ac!/\y=w! b/\eG! K a xs/\eG! K b ys/\a3! xs/\x!+c6!<=aW!/\ (ys=[]->Q ac! H)/\(a3! ys->∀p,gB!->Q b6! (fL! (p! (xs++ys)))))
theorem xl.nil_iff(r:i7!):us=[] ↔ xs=[]:=by cases r with
 | nil=>decide | cons _ _=>simp
theorem zmA:gv! .Add (zrX X.K):=by
 intro ae s O H x y v u Q I rx ry h;obtain⟨a,b,xs,ys,rfl,rfl,ha,hb,hx,hz,q1,q2⟩:=h;cases rx;cases ry;obtain⟨af,r1,p1,_⟩:=lp! ha;obtain⟨cW,r2,p2,_⟩:=lp! hb;refine HT.znj p1 p2 (λz=>hx (r1.nil_iff.mp z)) (λz=>bn! ac! H I (q1 (r2.nil_iff.mp z))) (λz=>bn! fV! _ (I.laid (λb ob q=>_g _ q) al! ?_) (q2 (λw=>z (r2.nil_iff.mpr w)) _ (mq! _))) (by rw[<- r1.length,<- r2.length];exact hz);exact⟨by rw[_ar];exact hz,_,r1.append r2,zfo.new _ _⟩
end
noncomputable def ixN(n:Nat)(i:Int):bm! Nat:=am! (0<=i) (ij! (i<n) (b! jq!)) (ij! (-(h! n)<=i) (b! (i+n).toNat))
noncomputable def atI{α:bL!}(xs:ex!)(i:Int):bm! α:=B! (kQ! i) (λj=>xs[j]?)
theorem zgm(h:ixN n i=b! j):seqIndex? i n=b! j/\j<n/\-(h! n)<=i/\i<n:=by
 unfold ixN at h;by_cases h0:0<=i
 ·rw[_i h0]at h;by_cases h1:i<n
  ·rw[_i h1]at h;have e := _p h;exact⟨by rw[seqIndex_of h0 h1,e],by lia,by lia,h1⟩
  ·rw[_q h1]at h;cases h
 ·rw[_q h0]at h;by_cases h1:-n<=i
  ·rw[_i h1]at h;have e := _p h;exact⟨by rw[seqIndex_neg (by lia) h1,e],by lia,h1,by lia⟩
  ·rw[_q h1]at h;cases h
theorem zg2{v:α}(h:atI xs i=bP!):∃j,seqIndex? i x!=b! j/\E! xs j v/\j<x!/\-(h! x!)<=i/\i<x!:=by
 unfold atI at h;cases e:kQ! i with
 | none=>rw[e]at h;cases h | some j=>
  rw[e]at h;obtain⟨h1,h2,h3,h4⟩:=zgm e;exact⟨j,h1,h,h2,h3,h4⟩
def zcF(b:Expr):g!:=∀o i,subscripted b r! o i=operate [o,i] (getItem o i)
def IxR(X:Cx)(r:R2):g!:= ∀(bg slice:Expr)(ae:List (Addr×Obj))(s:Shared)(O:St)(H:Hp)(x y:V)(v u:Value)(Q:VK),K!->ww x v->ww y u->r x y H Q-> subscripted slice r! v u=operate [v,u] (getItem v u)->bO! (subscriptTail bg slice v u) (EP X ae O Q) s
def MtR(X:Cx) (id:String) (r:V->aG!->Hp->eA!):g!:= ∀(ae:List (Addr×Obj)) (s:Shared) (O:St) (H:Hp) (x:V) (xs:List V) (v:Value) (us:List Value) (Q:VK),K!->ww x v->i7!->r x xs H Q-> bO! (pU! id (v::us)) (EP X ae O Q) s
section
variable {X:Cx}{a b:Expr}{ta tb:TE}{pos:Pos}
theorem IxR.or(h:IxR X r)(h':IxR X r'):IxR X (hI! (r x y H Q\/r' x y H Q)):=by
 intro bg slice ae s O H x y v u Q I rx ry q hs;rcases q with q | q;·exact h bg slice ae s O H x y v u Q I rx ry q hs
 ·exact h' bg slice ae s O H x y v u Q I rx ry q hs
theorem zpo(hr:IxR X r)(ha:S! a ta)(hb:S! b tb)(hs:zcF b):S! (mw! a b) (tOp r ta tb):=iI! (Subscript_ (ztq ha hb I h λv u s2 x y H2 I2 rx ry q=>hr a b ae s2 O H2 x y v u Q I2 rx ry q (hs _ _)))
def zvm(K:W.Frag):R2:=hI! (∃p xs i v,x=b6!/\y=aa!/\SqL K H p xs/\atI xs i=bP!/\Q v H)
def zuC(K:W.Frag):R2:=hI! (∃p xs i v,x=b6!/\y=aa!/\eG! K p xs/\atI xs i=bP!/\Q v H)
theorem zmK:IxR X (zvm X.K):=by
 intro bg slice ae s O H x y v u Q I rx ry h hs;obtain⟨p,xs,i,z,rfl,rfl,hq,he,q⟩:=h;cases rx;obtain⟨t,rfl⟩:=ry;obtain⟨af,r,pl,hz⟩:=lZ!;obtain⟨j,h1,h2,h3,h4,h5⟩:=zg2 he;obtain⟨w,ew,eJ⟩:=r.get h2;have hl:=r.length;have hn:=zdy;have fin:EP X ae O Q w s:=⟨z,H,I,eJ,q⟩;by_cases h0:0<=i
 ·have hj:jq!=j:=by
   rw[seqIndex_of h0 h5]at h1;exact _p h1
  exact item_listR qm! h0 (by lia) (by rw[hj];simpa using ew) fin hs
 ·have hj:fc! (i+h! iL!)=j:=by
   rw[seqIndex_neg (by lia) h4]at h1;rw[_s,<- hl];exact _p h1
  exact _b2 pl.isList.typeIs slot_list_getitem.lookup (wpAny_getItem_list_neg qm! (by lia) (by rw[_s]<;>lia) (by lia) (by rw[hj];simpa using ew) (iq! fin)) hs
theorem zpR:IxR X (zuC X.K):=by
 intro bg slice ae s O H x y v u Q I rx ry h hs;obtain⟨p,xs,i,z,rfl,rfl,hq,he,q⟩:=h;cases rx;obtain⟨t,rfl⟩:=ry;obtain⟨af,r,pl,hz⟩:=nr!;obtain⟨j,h1,h2,h3,h4,h5⟩:=zg2 he;obtain⟨w,ew,eJ⟩:=r.get h2;have hn:=zdy;exact _b2 pl.typeIs slot_tuple_getitem.lookup (getItem_tuple pl (by lia) (by lia) (by rw[_s,<- r.length];exact h1) (by simpa using ew) (iq! ⟨z,H,I,eJ,q⟩)) hs
theorem zeD(af:bU!) (n j:Nat) (u:Value):Obj.mapSeq (·.setIfInBounds j u) {cls:=db!,data:=oC! n}={cls:=db!,data:=.seq (nb! (af.set j u)) n}:=by simp[Obj.mapSeq]
theorem Inv.lst{ae:de!}{O:St}{H:Hp}{s:Shared}{p:Addr}{xs:aG!}(I:K!)(h:H p=L! xs): ∃(af:List Value)(n:Nat),xl xs af/\fU! p ({cls:=db!,data:=oC! n})/\x!<=aW!:=by
 obtain⟨z,af,n,r,e⟩:=gV! p h;exact⟨af,n,r,e,z⟩
theorem Inv.lstUpd{O:St} {af aP:bU!} (I:K!) (h:H p=L! xs) (ho:fU! p ({cls:=db!,data:=oC! n})) (hf:f {cls:=db!,data:=oC! n}={cls:=db!,data:=.seq aP.toArray n'}) (r:xl ys aP) (hz:oE!) (t:Nat): cI! (fL! hW!) ({s with heap:=sN! p f,toks:=t}):=by
 have e:e6! (sN! p f) p ({cls:=db!,data:=.seq aP.toArray n'}):=by rw[Heap.get?_update_self f ho (by rw[hf]<;>rfl),hf]
 exact I.write (by rw[h];trivial) cZ! (λb u hb q=>a4! (Heap.get?_update_other _ _ (_bT hb)) q) (c0! e) ⟨hz,aP,n',r,e⟩
def zrD:V->V->V->Hp->bQ!->g!:=λo i v H Q=>∃p xs k j,o=b6!/\i=d! k/\H p=L! xs/\kQ! k=b! j/\Q (fL! (ad! (iE! j v)))
theorem set_list:zup X zrD:=by
 intro ae s O H o i v ov iv u Q I ro ri rv h;obtain⟨p,xs,k,j,rfl,rfl,hp,hj,q⟩:=h;cases ro;obtain⟨t,rfl⟩:=ri;obtain⟨af,n,r,ho,hz⟩:=I.lst hp;obtain⟨h1,h2,h3,h4⟩:=zgm hj;have hl:=r.length;have hn:=zdy;have I' := I.lstUpd hp ho (zeD af n j u) (r.set rv j) (by rw[_cu];exact hz) fQ!;by_cases h0:0<=k
 ·have hk:dU!=j:=by
   rw[seqIndex_of h0 h4]at h1;exact _p h1
  exact W.ki_setAt ho h0 (by lia) (by rw[_s,<- hl];exact h4) (by rw[hk];exact bM! I' q)
 ·have hk:fc! (k+iL!)=j:=by
   rw[seqIndex_neg (by lia) h3]at h1;rw[_s,<- hl];exact _p h1
  exact W.ki_setBack ho (by lia) (by rw[_s,<- hl];exact h3) (by lia) (by rw[hk];exact bM! I' q)
theorem zb8(lo hi:dd!)(n:Nat):(sliceBounds lo hi a! n).1=Z! (n3! n 0 lo)/\(sliceBounds lo hi a! n).2.1=h! (n3! n n hi)/\(sliceBounds lo hi a! n).2.2=1:=by
 refine aV! ?_ ?_ rfl;·cases lo with
  | none=>rfl | some i=>
   simp only[sliceBounds,HT.sIx,_dp,_v];by_cases h:i<0;·simp only[h,_v]<;>lia
   ·simp only[h,_a1]<;>lia
 ·cases hi with
  | none=>rfl | some i=>
   simp only[sliceBounds,HT.sIx,_dp,_v];by_cases h:i<0;·simp only[h,_v]<;>lia
   ·simp only[h,_a1]<;>lia
theorem z92(af:bU!)(lo hi:dd!):slicePick fs! lo hi a!=nb! ((af.drop (n3! jW! 0 lo)).take (n3! jW! jW! hi-n3! jW! 0 lo)):=by
 obtain⟨h1,h2,h3⟩:=zb8 lo hi iL!;unfold slicePick;rw[h1,h2,h3];simp only[sliceRange_one,pick_run,_s]<;>rfl
def zv0(K:W.Frag):V->dd!->dd!->Hp->eA!:=ql! (∃a xs,x=ac!/\SqL K H a xs/\∀p,gB!->Q b6! (fL! (ad! (zod xs lo hi))))
theorem zm6:SlR X (zv0 X.K):=by
 intro ae s O H x v vl vu lo hi sl Q I rx hs pl pu h;obtain⟨a,xs,rfl,hx,q⟩:=h;cases rx;obtain⟨af,r,ht,hz⟩:=I.list hx;have ap:=r.length;refine⟨ea!,_,slot_list_getitem.lookup,ht.isList.typeIs,(wpAny_getItem_list_slice ht.isList hs pl pu X! (by decide) ?_ (by rw[_s]<;>lia))⟩;rw[z92,<- ap];refine bn! fV! _ (I.laid (λb ob q=>_g _ q) al! ?_) (q _ (mq! _));exact⟨_H (z5M xs lo hi) hz,_,0,(n4! (ih! 0 lo)).take (ih! x! hi-ih! 0 lo),g2!⟩
noncomputable def z7I:eC! V
 | .non=>true | .bl _=>true | .int _=>true | .str _=>true | _=>false
noncomputable def eqV:V->eC! V
 | .non,.non=>true | .bl a,.bl b=>a==b | .bl a,.int b=>(am! a 1 0)==b | .int a,.bl b=>a==(am! b 1 0) | .int a,.int b=>a==b | .str a,.str b=>a==b | _,_=>false
theorem zpm(ry:ww y u)(rx:ww x v)(fy:z7I y=c!)(fx:z7I x=c!):SeqAt.EqAt A s u v (eqV y x):=by cases y with
 | non=>
  cases ry;cases x with
  | non=>cases rx;exact SeqAt.EqAt.same _ | bl b=>cases rx;exact SeqAt.EqAt.none_bool b | int b=>obtain⟨t,rfl⟩:=rx;exact SeqAt.EqAt.none_int b t | str b=>obtain⟨t,rfl⟩:=rx;exact SeqAt.EqAt.none_str b t | _=>exact ry! fx
 | bl a=>
  cases ry;cases x with
  | non=>cases rx;exact SeqAt.EqAt.bool_none a | bl b=>cases rx;exact SeqAt.EqAt.bool_bool a b | int b=>obtain⟨t,rfl⟩:=rx;exact SeqAt.EqAt.bool_int a b t | str b=>obtain⟨t,rfl⟩:=rx;exact SeqAt.EqAt.bool_str a b t | _=>exact ry! fx
 | int a=>
  obtain⟨t',rfl⟩:=ry;cases x with
  | non=>cases rx;exact SeqAt.EqAt.int_none a t' | bl b=>cases rx;exact SeqAt.EqAt.int_bool a t' b | int b=>obtain⟨t,rfl⟩:=rx;exact SeqAt.EqAt.int_int a t' b t | str b=>obtain⟨t,rfl⟩:=rx;exact SeqAt.EqAt.int_str a t' b t | _=>exact ry! fx
 | str a=>
  obtain⟨t',rfl⟩:=ry;cases x with
  | non=>cases rx;exact SeqAt.EqAt.str_none a t' | bl b=>cases rx;exact SeqAt.EqAt.str_bool a t' b | int b=>obtain⟨t,rfl⟩:=rx;exact SeqAt.EqAt.str_int a t' b t | str b=>obtain⟨t,rfl⟩:=rx;exact SeqAt.EqAt.str_str a t' b t | _=>exact ry! fx
 | _=>exact ry! fy
noncomputable def eqU(x:V)(u:Value):Bool:=match u with
 | .none=>eqV aJ! x | .bool b=>eqV (.bl b) x | .int i _=>eqV aa! x | .str z _=>eqV (aI! z) x | _=>false
theorem zkW(r:ww y u)(f:z7I y=c!):eqU x u=eqV y x:=by cases y with
 | non=>cases r;rfl | bl b=>cases r;rfl | int i=>obtain⟨t,rfl⟩:=r;rfl | str z=>obtain⟨t,rfl⟩:=r;rfl | _=>exact ry! f
theorem z6t: ∀{xs:List V}{us:List Value},i7!->n5! z7I=c!->us.any (eqU x)=xs.any λy=>eqV y x
 | _,_,.nil,_=>rfl | y::xs,u::us,.cons r t,f=>by
  rw[_cl,_R]at f;rw[List.any_cons,List.any_cons,zkW r f.1,z6t t f.2]
theorem z24(rx:ww x v)(fx:z7I x=c!):∀{xs:List V}{us:List Value},i7!->n5! z7I=c!->∀u∈us,SeqAt.EqAt A s u v (eqU x u)
 | _,_,.nil,_=>λu hu=>by cases hu | y::xs,u::us,.cons r t,f=>λu' hu=>by
  rw[_cl,_R]at f;rcases eK! hu with rfl | hu;·rw[zkW r f.1];exact zpm r rx f.1 fx
  ·exact z24 rx fx t f.2 u' hu
noncomputable def inV(x:V)(xs:aG!):Bool:=xs.any λy=>eqV y x
def rIn(K:W.Frag)(cb:Bool):R2:=hI! (∃p xs,y=b6!/\(SqL K H p xs\/eG! K p xs)/\z7I x=c!/\n5! z7I=c!/\Q (.bl (am! cb (! inV x xs) (inV x xs))) H)
theorem zhF:dP! .In (rIn X.K r!):=by
 intro ae s O H x y v u Q I rx ry h;obtain⟨p,xs,rfl,hq,fx,fs,q⟩:=h;cases ry;rcases hq with hq | hq
 ·obtain⟨af,r,pl,hz⟩:=lZ!;refine SeqAt.in_listAt (eqU x) qm! (λw hw=>z24 rx fx r fs w (by simpa using hw)) (bn! (.bl _) H I ?_);rw[show sq! x=af.any (eqU x) by simp,z6t r fs];exact q
 ·obtain⟨af,r,pl,hz⟩:=nr!;refine SeqAt.in_tupleAt (eqU x) pl (λw hw=>z24 rx fx r fs w (by simpa using hw)) (bn! (.bl _) H I ?_);rw[show sq! x=af.any (eqU x) by simp,z6t r fs];exact q
theorem za9:dP! .NotIn (rIn X.K c!):=by
 intro ae s O H x y v u Q I rx ry h;obtain⟨p,xs,rfl,hq,fx,fs,q⟩:=h;cases ry;rcases hq with hq | hq
 ·obtain⟨af,r,pl,hz⟩:=lZ!;refine SeqAt.notIn_listAt (eqU x) qm! (λw hw=>z24 rx fx r fs w (by simpa using hw)) (bn! (.bl _) H I ?_);rw[show sq! x=af.any (eqU x) by simp,z6t r fs];exact q
 ·obtain⟨af,r,pl,hz⟩:=nr!;refine SeqAt.notIn_tupleAt (eqU x) pl (λw hw=>z24 rx fx r fs w (by simpa using hw)) (bn! (.bl _) H I ?_);rw[show sq! x=af.any (eqU x) by simp,z6t r fs];exact q
theorem zaI:l2! X "len" (∃p ys,xs=[b6!]/\(SqL X.K H p ys\/eG! X.K p ys)/\Q (d! c6!) H):=by
 intro ae s O H xs us Q I r h;obtain⟨p,ys,rfl,hq,q⟩:=h;obtain⟨u,rfl,rx⟩:=k0!;cases rx;have hn:=zdy;rcases hq with hq | hq
 ·obtain⟨af,r',pl,hz⟩:=lZ!;have ap:=r'.length;exact Calls.call_len_list qm! (by simp only[_s]<;>lia) ⟨d! c6!,H,it!,⟨fQ!+1,by rw[_s,ap]⟩,q⟩
 ·obtain⟨af,r',pl,hz⟩:=nr!;have ap:=r'.length;exact len_tuple pl (by simp only[_s]<;>lia) ⟨d! c6!,H,it!,⟨fQ!+1,by rw[_s,ap]⟩,q⟩
theorem zbL:wa X db! (λxs H Q=>∃p ys,xs=[b6!]/\(SqL X.K H p ys\/eG! X.K p ys)/\∀l,H l=a!->Q ez! (hS! l hW!)):=by
 intro ae s O H xs us Q I r h;obtain⟨p,ys,rfl,hq,q⟩:=h;obtain⟨u,rfl,rx⟩:=k0!;cases rx;have fin:∀(af:List Value),xl ys af->oE!->∀(h':Heap) (c':Nat),(∀b o',fU! b o'->gj! b o')-> gj! at! ({cls:=db!,dict:=none,data:=oC! c',slots:=#[]})->EP X ae O Q fV! {s with heap:=h'}:=λaf r' hz h' c' kp e=> bn! fV! _ (I.laid kp al! (show jA aT! X.w _ h' _ hW! from⟨hz,af,c',r',e⟩)) (q _ (mq! _));rcases hq with hq | hq
 ·obtain⟨af,r',pl,hz⟩:=lZ!;have ap:=r'.length;obtain⟨o,ho,hc,n,hd⟩:=pl.isList;exact call_list_seq p cZ! ho hc hd (λh' c' kp e=>fin af r' hz h' c' kp e) (by simp only[_s]<;>lia)
 ·obtain⟨af,r',pl,hz⟩:=nr!;have ap:=r'.length;obtain⟨o,ho,hc,n,hd⟩:=pl;exact call_list_seq p (Q! rfl) ho hc hd (λh' c' kp e=>fin af r' hz h' c' kp e) (by simp only[_s]<;>lia)
theorem z9M:wa X dC! (λxs H Q=>∃p ys,xs=[b6!]/\((SqL X.K H p ys/\∀l,H l=a!->Q ez! (hS! l (p! ys)))\/(eG! X.K p ys/\Q b6! H))):=by
 intro ae s O H xs us Q I r h;obtain⟨p,ys,rfl,h⟩:=h;obtain⟨u,rfl,rx⟩:=k0!;cases rx;rcases h with⟨hq,q⟩ | ⟨hq,q⟩
 ·obtain⟨af,r',pl,hz⟩:=lZ!;have ap:=r'.length;refine call_tuple_list qm! (λh' kp=>?_) (by simp only[_s]<;>lia);have I1 := I.kept (t':=s.toks) kp;exact bn! (w! h'.objs.size) _ (I1.laid (t':=s.toks) (l1! _ e) al! (show jA aT! X.w _ _ _ (p! ys) from⟨hz,af,r',zfo.new _ _⟩)) (q _ (sJ! al!))
 ·obtain⟨af,r',pl,hz⟩:=nr!;exact call_tuple_same pl (bn! b6! H I q)
def tyV(K:W.Frag)(T:String)(x:V)(H:Hp):g!:=match x with
 | .str _=>T=gc! | .int _=>T=eo! | .ref p=>(T=ea!/\∃xs,SqL K H p xs)\/(T=cV!/\∃o,mW! p=b! o/\gd!=dC!/\o.dict=a!)\/ (T=nB!/\((∃ah,H p=b! gW!)\/∃ah,H p=b! lf!))\/(T="set"/\∃S n,H p=b! (.set S n)) | _=>False
theorem zpa{O:St} (I:K!)(r:ww x v)(ty:tyV X.K T x H): pa! v T/\∀a,v=ac!->∃ob,fU! a ob/\ob.dict=a!:=by cases x with
 | str z=>
  obtain⟨t,rfl⟩:=r;cases (ty);exact⟨typeIs_str s z t,λ_ e=>nomatch e⟩ | int i=>
  obtain⟨t,rfl⟩:=r;cases (ty);exact⟨_cd s i t,λ_ e=>nomatch e⟩ | ref p=>
  cases r;rcases ty with⟨rfl,xs,hq⟩ | ⟨rfl,o,hk,hc,hd⟩ | ⟨rfl,hk⟩ | ⟨rfl,S,n,hk⟩
  ·obtain⟨af,_,pl,_⟩:=lZ!;refine⟨pl.isList.typeIs,λa e=>?_⟩;cases e;obtain⟨o,n,e,c,hd,_⟩:=pl;exact cr! e hd
  ·refine⟨cr! (I.kIn p o hk) hc,λa e=>?_⟩;cases e;exact cr! (I.kIn _ o hk) hd
  ·obtain⟨o,e,ex⟩:=(show ∃o,dm! p/\o.ExactDict from by
    rcases hk with⟨ah,hk⟩ | ⟨ah,hk⟩
    ·obtain⟨_,_,_,_,o,_,_,e,ex,_⟩:=gV! p hk;exact cr! e ex
    ·obtain⟨_,_,_,_,o,_,_,e,ex,_⟩:=gV! p hk;exact cr! e ex);refine⟨cr! e ex.1,λa e2=>?_⟩;cases e2;exact cr! e ex.2.1
  ·obtain⟨o,_,_,_,e,ex,_⟩:=gV! p hk;refine⟨cr! e ex.1,λa e2=>?_⟩;cases e2;exact cr! e ex.2.1 | _=>exact me! ty
def tBM(K:W.Frag)(T:String)(r:V->aG!->Hp->eA!)(to:TE)(t:TA):TE:=gI! (to O H (hG! (tyV K T x H1/\t O H1 λxs H2=>r x xs H2 Q)))
variable {o e:Expr}{es:aE!}{to:TE}{t:TA}{name:Str}{ao ak:Pos}{T id:String}{r:V->aG!->Hp->eA!}
theorem znL(pa:PlainAttrs T) (slot:Slot T iJ! id) (gL:typeOf (.builtin id)=dS! (ar! "method_descriptor")) (hm:MtR X id r) (ho:S! o to) (ha:PA X (e::es) t) (am:A! (lO! o iJ! gw!=gw!)) (aH:dg! (hs! (hP! ak (e::es)) (! x.1)&&hs! (nA! ak []) (iF! x.1) && bw! (q! (e::es)+q! ([]:gO!)+(np! ([]:gO!) 0 1)<30))) (ai:dg! pS!) (hs:A! (aw! (e::es)=dQ!::iw!)) (aw:A! ((hP! ak es).any (·.1)=r!)): S! (fw! (mz! o iJ!) (e::es) [] ak) (tBM X.K T r to t):=by
 refine iI! (_b3 am aH ai rfl (thn (ho ae s O H _ I h) λv s1 ⟨x,H1,I1,r1,ty,q1⟩=>?_));obtain⟨h1,h2⟩:=zpa I1 r1 ty;refine⟨T,id,pa,slot,gL,h1,h2,?_⟩;have hA:=ha ak ae s1 O H1 _ I1 q1;rw[hs]at hA ⊢;exact _b4 (by show (r!||(hP! ak es).any (·.1))=r!;rw[aw]<;>rfl) (_by (thn hA λus s2 ⟨vs,H2,I2,r2,q2⟩=>hm ae s2 O H2 x vs v us Q I2 r1 r2 q2))
end
def MtM(X:Cx) (id:String) (r:V->aG!->Hp->eA!):g!:= ∀(ae:List (Addr×Obj)) (s:Shared) (O:St) (H:Hp) (x:V) (xs:List V) (v:Value) (us:List Value) (Q:VK),K!->ww x v->i7!->r x xs H Q-> bO! (pU! id (v::us)) (EP X ae O Q) s
theorem xl.one:∀{x:V}{us:List Value},kl! [x]->∃u,us=[u]/\ww x u | _,_,.cons r .nil=>aC! _ r
theorem xl.rep(h:i7!):∀k:Nat,xl (hO! k xs) (hO! k us)
 | 0=>cu! | k+1=>xl.append h (xl.rep h k)
theorem foldl_rep(af:bU!):∀(k:Nat)(acc:List Value), List.foldl (λx1 x2=>x1++x2) acc.toArray (mg! k fs!)=nb! (acc++hO! k af)
 | 0,acc=>by simp | k+1,acc=>by rw[<- (show (acc++af)++hO! k af=acc++hO! (k+1) af from by rw[_aR,_bw,_b5]),<- foldl_rep af k (acc++af),<- (show acc.toArray++fs!=nb! (acc++af) from by simp),_aR,_a8]
section
variable {X:Cx}{ae:de!}{O:St}{H:Hp}{s:Shared}{l b:Addr}{xs ys zs:aG!}
theorem Inv.lset{af aP:bU!} (I:K!) (hH:H l=L! xs) (e:fU! l ({cls:=db!,data:=oC! n})) (hf:f fs!=aP.toArray) (hv:xl ys aP) (hz:oE!): cI! (hS! l hW!) ({s with heap:=lJ! l f,toks:=t'}):=by
 have q:=PySem.IsL.update e f;rw[hf]at q;exact I.write (by rw[hH];exact trivial) cZ! (λb' u hb hu=>a4! (Heap.get?_update_other F! (sK! f) (_bT hb)) hu) (c0! q) ⟨hz,aP,_,hv,q⟩
theorem Inv.lnew(I:K!) (hv:xl ys af) (hz:oE!): cI! (hS! at! hW!) ({s with heap:=id! ({cls:=db!,data:=.seq fs!}),toks:=t'}):= I.laid (λ_ _ q=>_g _ q) al! ⟨hz,af,0,hv,g2!⟩
theorem Inv.fresh(I:K!):H at!=a!:=mq! _
theorem Inv.lstM(I:K!)(hH:H l=L! xs):x!<=aW!/\∃(af:List Value)(n:Nat),xl xs af/\x!=jW!/\fU! l ({cls:=db!,data:=oC! n}):=by
 obtain⟨z,af,n,r,e⟩:=gV! l hH;exact⟨z,af,n,r,aK!,e⟩
theorem zk4(h:n<=aW!):Builtin.List.listTooLong n=r!:=_ap (by lia)
end
section
variable {X:Cx}
def znc:V->aG!->Hp->eA!:=λx vs H Q=>∃l xs y,x=ez!/\vs=[y]/\H l=L! xs/\x!<aW!/\Q aJ! (hS! l (ad! (xs++[y])))
theorem zh5:MtM X "list.append" znc:=by
 intro ae s O H x vs v us Q I rx rv h;obtain⟨l,xs,y,rfl,rfl,hH,hz,q⟩:=h;cases rx;obtain⟨u,rfl,ru⟩:=rv.one;obtain⟨z,af,n,r,hl,e⟩:=I.lstM hH;refine _bi F.slot_list_append (b5! e) F.entry_list_append (F.args_list_append_2 _ _) (PySem.list_append l fs! n u (by rw[_s];lia)) ⟨e,?_⟩;refine bn! aJ! _ (I.lset hH e (by simp) (r.append (eI! ru cu!)) ?_) q;rw[_ar,List.length_singleton];lia
def zuQ:R2:=hI! (∃l k xs,x=ez!/\y=d! k/\Rd H l cq!/\-(2 ^ 63)<=k/\k<2 ^ 63/\x!*dU!<=aW!/\ ∀p,gB!->Q b6! (fL! (ad! (hO! dU! xs))))
theorem len_rep{α:bL!}(xs:ex!)(k:Nat):(mg! k xs).flatten.length=k*x!:=by induction k with
 | zero=>simp | succ k ih=>rw[_aR,_bw,_ar,ih,Nat.succ_mul,Nat.add_comm]
theorem zkT:ny! zuQ:=by
 intro ae s O H x y v u Q I rx ry h;obtain⟨l,k,xs,rfl,rfl,hH,h1,h2,hz,q⟩:=h;cases rx;obtain⟨t,rfl⟩:=ry;obtain⟨z,af,n,r,e⟩:=hH.ok eL!;have ap:iL!*dU!<=aW!:=by rw[_s,<- (show x!=jW! from by have:=r.length;lia)];exact hz
 have gM:¬ (! Builtin.List.listFitsIndex k)=c!:=by
  rw[fitsIndex_both h1 h2];exact _az
 refine _bI (by decide) (b5! e) (λs'=>_cd s' k t) noFill_list_mul F.fills_int_mul _bq repeat_list _dq.lookup (_bi _bq (_cd s k t) _dr (_c2 _ _) (int___rmul___int_list k t l fs! n) ⟨e,rfl,b5! e,_bi F.slot_list_mul (b5! e) F.entry_list_mul (F.args_list_mul_2 _ _) (AutoListH.list___mul___list_int_3 l fs! n k t gM (by
  have:aW!<=(2 ^ 63-1) / 8:=by decide
  lia) (by
  rw[zk4 ap];exact _az)) ⟨e,?_⟩⟩);rw[(show List.foldl (λx1 x2=>x1++x2) #[] (mg! (aF! af.toArray.isEmpty 0 dU!) fs!)=(mg! dU! af).flatten.toArray from by
  have f0 := λm=>by
   have:=foldl_rep af m [];rw[_av]at this;exact this
  rw[f0];cases af with
  | nil=>simp | cons a r'=>rw[_q (by simp)])];exact⟨w! _,_,I.lnew (r.rep dU!) (by rw[len_rep,_dI];exact hz),rfl,q _ I.fresh⟩
end
end L2
namespace Att
open PySem.W PySem.Calls
theorem z74: ∀(ns:List Int)(vs:List Value),WellAll P h vs (pb! WData.int)->rw! vs:=by
 intro ns;induction ns with
 | nil=>
  intro vs w;cases w;exact cu! | cons n ns ih=>
  intro vs w;cases w with | cons a b=>
   cases a;exact .cons _ _ (ih _ b)
theorem zhY{l:OpenLaw} (hn:l.most=b! n) (ce:l.row.toRowW.claim.pre jU!=c!) (gN:WellAll P h eR jU!): ∃a vs ns,eR=[lj! a]/\jU!=[WData.list (pb! WData.int)]/\eu! a ({cls:=db!,data:=.seq eM!})/\rw! vs/\eN!<=n:=by
 have hc:l.pre.holds [] {args:=args}=c!:=(pre_splitW ce).2;obtain⟨d,r,rfl,h1,h2⟩:=hasAllW_cons ((pre_splitW ce).1);obtain rfl:=hasAllW_nil h2;obtain⟨xs,rfl,h3⟩:=hasW_list h1;obtain⟨ns,rfl⟩:=items_int h3;cases gN with | cons w1 w2=>
  cases w2;cases w1 with | list ho gO=>exact⟨_,_,ns,rfl,rfl,ho,z74 ns _ gO,(by
  have h4:(WTm.not (.lt (.lit (d! n)) (.len (.arg 0)))).holds [] {args:=[.list (pb! .int)]}=c!:=by
   have h4:=(holds_andW hc).1;rw[hn]at h4;exact h4
  have h5:=condW_of h4 (w_not (w_lt w_lit (w_len_list (w_arg rfl))));(simp at h5;lia))⟩
theorem zh7(l:OpenLaw)(args:d9! WData):l.row.toRowW.claim.post jU! (.bool c!) jU!=c!:= postW_of ((by rfl)) ((w_eq_bool (w_res rfl) w_lit)) rfl
theorem zcp{l:OpenLaw} (hn:l.most=b! n)(gP:d.params.defaults=[]) (call:∀(w:World)(s₀ s₁:Shared)(mg mb:Str->Option Value)(fa:Addr)(o:Obj)(pm cd aE:Value)(a:Addr)(vs:List Value)(ns:List Int), Ground q n6! [] XP w s₀ mg mb lv!->YP w lv!-> qn! fa=b! o->ib!=.func (docDef d.name d.params d.body d.scope pm cd aE)->s₁.heap.CodeRec cd d.name->fn! d.name (w! fa)-> qn! a=b! ({cls:=db!,data:=.seq eM!})->rw! vs->eN!<=n->s₁.gens=#[]-> kC! (model l.prog w) qo! (.call (w! fa) (dG! [ac!])) (λr s'=>r=l7! (.bool c!)/\OldK lv! gH!/\p9!=s₁.os/\rf!) jo!): WalkO q n6! XP YP l.row.toRowW d [] (λf vs=>PySem.call f vs):=by
 intro w s₀ s₁ mg mb G Yy fa o pm cd aE dV kV ho hd bC hD cX hg args eR as ce mj pM gN pN;obtain rfl:dV=X!:=Dflts.none hD gP;obtain rfl:kV=X!:=Dflts.noKw hD;obtain⟨a,vs,ns,rfl,rfl,dF,cH,ap⟩:=zhY hn ce gN;refine enter_call (_dE (call w s₀ jo! mg mb fa o pm cd aE a vs ns G Yy ho (fd_plain hd) bC cX dF cH ap hg) λr s' hq=>?_);obtain⟨rfl,h2,h3,h4⟩:=hq;exact⟨y! ⟨.bool c!,.bool c!,[],rfl,bf! rfl,.bool c!,zh7 l _,bf! ⟨List.Pairwise.nil,λ_ hm=>(nomatch hm)⟩⟩,h2,h3,h4⟩
section
variable {prog:Program}{w:World}{A:Around}{E:bX!}{s:Shared}{K:Frag}
noncomputable def ledger(h:Heap)(L d:Addr):de!:=rR! jk! (λa=>am! (a=L\/a=d) a! ((pY! a).map λo=>(a,o)))
end
end Att
namespace L2
theorem za7:∀{vs:List Value}{ns:List Int},rw! vs->xl hQ! vs
 | _,_,.nil=>cu! | _,_,.cons n t h=>eI! (co! t) (za7 h)
def ztg(H:Hp):g!:=∀b,e8!\/∃o xs,cR! (d2! cq!)
theorem zjB{P:Program}{w:World}{K:W.Frag}{mg mb:Str->aS!}{CX:CXT}{k:Nat}{fa a:Addr}{fd:FuncData}{x:Str}{sp:Sp}{s₁:Shared}{vs:bU!}{ns:i!} (KX:K.In lv!)(i6:s₁.heap.Ns ma! mg)(hb:s₁.heap.Ns builtinsNs mb)(ml:∀x:Str,lT! x->mb x=ll! x)(gQ:s₁.heap.NoLimit)(hg:s₁.gens=#[]) (ha:qn! a=b! ({cls:=db!,data:=.seq eM!}))(hi:rw! vs)(hl:eN!<=aW!)(hr:hE! qo!) (F:∀base:Heap,K.In O!->sp! mg->z9e P w K mg O! CX k fa fd [x] sp)(eS:∀(s:Shared)(u:Value),qh! s fd (dG! [u]) [(x,u)]) (cF:∀H:Hp,ztg H->SqL K H a hQ!->sp [ac!] H (λv _=>v=ew!) (fv! m9!)) (mq:∀H e s',CX [] H jo! (fv! m9!) e s'->m9!): kC! (model P w) qo! (.call (w! fa) (dG! [ac!])) (λr s'=>r=l7! (.bool c!)/\OldK lv! gH!/\p9!=s₁.os/\rf!) jo!:=by
 have rv:=za7 hi;have eT:∀H:Hp,ztg H->SqL K H a hQ!->HOk P w H lv!->(∀b,H b≠a!->b=a)->(H a≠a!->oK!=a!)-> kC! (model P w) qo! (.call (w! fa) (dG! [ac!])) (λr s'=>r=l7! (.bool c!)/\OldK lv! gH!/\p9!=s₁.os/\rf!) jo!:=by
  intro H hO hS hok hA hK;have bU:∀{b:Addr}{o:Obj},qn! b=b! o->e8!->e6! (zoe lv! H) b o:=λe n=>zjq e n;have eN:∀{b:Addr}{o:Obj}{es:Array DictEntry}{ep:Nat},qn! b=b! o->ib!=.dict es ep->e8!:=λ{b o es ep} e d=>by cases q:H b with
   | none=>rfl | some u=>
    have e' := hA b (by rw[q];simp);subst e';rw[ha]at e;cases e;cases d
  have fY:∀{b:Addr}{m:Str->Option Value},s₁.heap.Ns b m->(zoe lv! H).Ns b m:=λ{b m} ⟨o,es,ep,e,d,r⟩=>⟨o,es,ep,bU e (eN e d),d,r⟩;have i7 := gG! (bU (KX b o e) (by cases q:H b with
   | none=>rfl | some u=>
    have e' := hA b (by rw[q];simp);subst e';rw[hK (by rw[q];simp)]at e;cases e));refine _dE ((F _ i7 (fY i6)).run qo! [] jo! H (dG! [ac!]) [ac!] [ac!] _ _ hr ⟨rfl,⟨i7,fY i6,⟨mb,fY hb,ml⟩,let ⟨mc,h1,h2⟩:=gQ;⟨mc,fY h1,h2⟩⟩,gG! (zo7 e),Nat.le_of_eq (zfx _ _),trivial,cl! (bS! (show b∈([]:an!) from hb) (by simp)),hok,.of_eq hg⟩ (eS jo! ac!) (eI! rfl cu!) (cF H hO hS)) λr s' h=>?_;cases r with
  | error e=>exact bZ! (mq H e s' h) | ok fl=> cases fl with
   | next=>exact me! h | brk=>exact me! h | cont=>exact me! h | ret u=>
    obtain⟨v,H',os,bare,un,gR,r',q⟩:=h;subst q;obtain rfl:u=Value.bool c!:=r';refine⟨rfl,OldK.of_keep (gG! ?_),os,bare⟩;cases q:H b with
    | none=>exact un.keep b o e q (by intro z;exact bS! (show b∈([]) from z) (by simp)) (by simp) | some u=>
     rcases hO b with z | ⟨ob,xs,z⟩;·rw[q]at z;cases z
     ·obtain⟨e1,_⟩:=hok b _ z;obtain⟨e2,_⟩:=gR b _ (un.frzs b ob _ z);rw[e]at e1;cases e1;exact e2
 cases hk:oK! with
 | some o=>
  have e:=KX a o hk;rw[ha]at e;cases e;refine eT (bf! a!) (bf! cZ!) (Q! ⟨_,eM!,_,hk,rfl,rfl,rfl,by rw[_s,hi.length];exact hl,by exact rv⟩) (λb u z=>by have z' := z;cases z') (λb z=>fe! z) λz=>fe! z | none=>
  refine eT (λb=>ij! (b=a) (b! (.frz {cls:=db!,data:=.seq eM!} (ad! hQ!)))) (λb=>?_) (y! (ef! ({cls:=db!,data:=.seq eM!}) gU!)) (λb u z=>?_) (λb z=>?_) (bf! hk)
  ·by_cases hb:b=a;·exact Q! ⟨_,_,_i hb⟩
   ·exact y! (_q hb)
  ·by_cases hb:b=a
   ·have z':=(_i hb).symm.trans z;cases z';subst hb;exact⟨ha,by rw[_z];exact hl,vs,_,rv,ha⟩
   ·have z':=(_q hb).symm.trans z;cases z'
  ·by_cases hb:b=a;·exact hb
   ·exact bS! (_q hb) z
noncomputable abbrev KOf{K:W.Frag}{h:Heap}(_:hr!):W.Frag:=K
noncomputable def jp(s:Stmt):Arguments:=match s with
 | .FunctionDef _ a _ _ _ _ _ _ _ _=>a | _=>{posonlyargs:=[],args:=[],vararg:=none,kwonlyargs:=[],kw_defaults:=[],kwarg:=none,defaults:=[]}
noncomputable def xE(s:Stmt):nt!:=match s with
 | .FunctionDef _ _ b _ _ _ _ _ _ _=>b | _=>[]
noncomputable def zi(s:Stmt):Scope:=match s with
 | .FunctionDef _ _ _ _ _ _ sc _ _ _=>sc | _=>{kind:=r7!,names:=[],isGenerator:=false,isCoroutine:=false}
noncomputable abbrev CX0:CXT:=λ_ _ _ _ _ _=>m9!
abbrev E0:XK:=fv! m9!
theorem zjC: Passes CX0 X E0:=λ_ _ _ _ _ _ _ h=>h.elim
structure Fun(K:W.Frag)(x qual:Str)(st:Stmt)(f:Addr)(fd:FuncData):g! where
 ex:∃(oc:Value)(od:Option Addr)(kV aE pm:Value)(an:Option Addr)(aj ct:Value)(cE:Array (Option Value)), fd=W.fnOf x av! (jp st) h6! c2! X! kV aE pm an aj ct/\mW! f=b! ⟨oc,od,.func fd,cE⟩/\W.codeIn K aj av!=c!
 kp:oL! K=c!
section
variable {P:Program}{w:World}{K:W.Frag}{mg:Str->aS!}{base:Heap}
theorem Fun.ok{x qual:Str}{st:Stmt}{f:Addr}{fd:FuncData}{N ps:aq!}{k:Nat}{sp:Sp}(F:Fun K x av! st f fd)(S:R! N ps st)(len:∀vs H Q E,sp vs H Q E->mu!) (aZ:∀(aj:Value)(A:Around)(outer:List Env)(s:Shared)(H:Hp)(vs:List V)(Q:VK)(E:XK),hE! (kf! av! c2! f aj)->sp vs H Q E-> ∃t,PSs (z4M CX0 P w K mg O! N av! c2! f aj A au! s H E).nox h6! t/\t {nx:=λ_ H'=>Q aJ! H',rt:=Q} (oZ! N) H):z9e P w K mg O! CX0 (k+1) f fd ps sp:=by
 obtain⟨oc,od,kV,aE,pm,an,aj,ct,cE,rfl,lk,bC⟩:=F.ex;refine zot lk bC S len λA outer s H vs Q E hr cF=>?_;obtain⟨t,h,q⟩:=aZ aj A au! s H vs Q E hr cF;exact aV! t h.nox q
theorem Fun.binds{x qual:Str}{st:Stmt}{f:Addr}{fd:FuncData}{ps:aq!}(F:Fun K x av! st f fd) (h:rH! (iD!=a5!) (qi! (W.fnOf x av! (jp st) h6! c2! X! kV aE pm an aj ct) (dG! us)=dS! l0!)):kp! K ps []:=by
 obtain⟨oc,od,kV,aE,pm,an,aj,ct,cE,rfl,lk,bC⟩:=F.ex;exact .all (h kV aE pm an aj ct)
theorem zqf{st:Stmt} {kV aE pm aj ct:Value}(l:mW! f=b! ⟨oc,od,.func (W.fnOf x av! (jp st) h6! c2! X! kV aE pm an aj ct),cE⟩) (c:W.codeIn K aj av!=c!)(k:oL! K=c!):Fun K x av! st f (W.fnOf x av! (jp st) h6! c2! X! kV aE pm an aj ct):=as! ⟨oc,od,kV,aE,pm,an,aj,ct,cE,rfl,l,c⟩ k
end
end L2
set_option maxHeartbeats 4000000
namespace L2
noncomputable def zct(env:Env):dD! ls!->dD! lg!->dD! lg!
 | [],acc=>acc | (n,k)::r,acc=>zct env r (am! (k==bT!) (match env.cells.lookup n with | some c=>(n,c)::acc | none=>acc) acc)
theorem z79: sh! (∀x c,acc.lookup x=b! c->env.cells.lookup x=b! c) (∀x c,i0! (zct env g9! acc) x c->env.cells.lookup x=b! c)
 | [],acc,ha=>ha | (n,k)::r,acc,ha=>by
  refine z79 r _ λx c=>?_;split
  ·split
   ·rename_i c' hc;intro h;rw[_X]at h;split at h
    ·rename_i hb;cases h;rw[jr! hb];exact hc
    ·exact ha x c h
   ·exact ha x c
  ·exact ha x c
theorem zb5: sh! (ip! (acc.lookup x)) (ip! (o9! (zct env g9! acc) x))
 | [],acc,ha=>ha | (n,k)::r,acc,ha=>by
  refine zb5 r _ ?_;split
  ·split
   ·rw[_X];split;·rfl
    ·exact ha
   ·exact ha
  ·exact ha
theorem z8N: sh! ((x,ie!)∈g9!) ((∃c,env.cells.lookup x=b! c)->∃c,i0! (zct env g9! acc) x c)
 | [],acc,h,_=>nomatch h | (n,k)::r,acc,h,hc=>by
  rcases eK! h with e | h
  ·cases e;obtain⟨c,hc⟩:=hc;unfold zct;rw[hc];exact Option.isSome_iff_exists.mp (zb5 r _ (by simp))
  ·exact z8N r _ h hc
theorem z81(f:Str×ls!->dD! lg!->Sem (ForInStep (dD! lg!))) (hf:∀n k cs,f (n,k) cs=am! (k==bT!) (do let a <- cellOf env n;dS! (.yield ((n,a)::cs))) (dS! (.yield cs))): sh! (∀y∈names,y.2=bT!->∃c,env.cells.lookup y.1=b! c) (forIn g9! acc f=dS! (zct env g9! acc))
 | [],acc,_=>rfl | (n,k)::r,acc,h=>by
  rw[List.forIn_cons,hf];have ih:=λgS=>z81 f hf r gS (cW! (h y (_K _ hy)));unfold zct;by_cases hk:k=bT!
  ·subst hk;obtain⟨c,hc⟩:=h (n,bT!) _aj rfl;have cB := hc;have e:cellOf env n=dS! c:=by unfold cellOf;rw[cB]
   rw[e,cB];exact ih _
  ·have hb:(k==ie!)=r!:=by simpa using hk
   rw[hb];exact ih _
theorem kC(h:∀y∈scope.names,y.2=bT!->∃c,env.cells.lookup y.1=b! c):closureFor by! env=dS! (oD! env []):=by
 simp only[closureFor];rw[z81 _ (λn k cs=>by cases hk:k==ie!<;>rfl) lt! [] h];rfl
theorem uQ:∀(names:List (Str×NameKind))(n:Nat)(acc:List (Str×Addr)),sb! n g9! acc=sb! n g9! []++acc
 | [],_,_=>rfl | (x,k)::r,n,acc=>by
  unfold cellsFrom;split
  ·rw[uQ r (n+1) ((x,n)::acc),uQ r (n+1) [(x,n)]];simp
  ·exact uQ r n acc
theorem jR: ∀(names:List (Str×NameKind))(n:Nat)(acc:List (Str×Addr)),(x,c)∈sb! n g9! acc->(x,c)∈acc\/(x,NameKind.cell)∈g9!
 | [],_,_,h=>y! h | (y,k)::r,n,acc,h=>by
  unfold cellsFrom at h;split at h
  ·rename_i hk;rcases jR r _ _ h with q | q
   ·rcases eK! q with e | q
    ·cases e;refine Q! ?_;rw[(jr! hk)];exact _aj
    ·exact y! q
   ·exact Q! (_K _ q)
  ·rcases jR r _ _ h with q | q;·exact y! q
   ·exact Q! (_K _ q)
noncomputable def zkp(X:Cx)(scope:Scope)(C:Addr):Env:= {scope:=relabel by! aX!,locals:=C,globals:=X.env.globals,cells:=mo! (C+1) []++oD! aX! [],qual:=X.env.qual,func:=none,code:=X.env.code,frame:=X.env.frame,builtins:=X.env.builtins}
noncomputable def yb(X:Cx)(N':aq!)(scope:Scope)(ex:an!)(s:Shared)(H:Hp):Cx where
 prog:=X.prog;w:=X.w;K:=X.K;mg:=X.mg;base:=X.base;A:=X.A;N:=N';s₀:=s;H₀:=H;env:=zkp X by! at!;outer:=X.stack;stack:=X.stack;ex:=ex;fn:=λx=>jV! x==ds!;calm:=X.calm;pn:=[];xe:=iW!
theorem z1p{env:Env}{x:Str}{k:NameKind}:∀{names:List (Str×NameKind)},names.lookup x=b! k-> i0! (names.map λ(n,k)=>am! (k==ie!&&mA!&&mv!==ds!) (n,NameKind.cell) (n,k)) x k\/ (k=bT!/\o9! (names.map λ(n,k)=>am! (k==ie!&&mA!&&mv!==ds!) (n,NameKind.cell) (n,k)) x=ds!)
 | [],h=>by cases h | (n,k')::r,h=>by
  have ih:=@z1p env x k r;show r0! ((aF! (k'==ie!&&mA!&&mv!==ds!) (n,NameKind.cell) (n,k'))::_)=_\/(_/\r0! ((aF! (k'==ie!&&mA!&&mv!==ds!) (n,NameKind.cell) (n,k'))::_)=_);cases hx:x==n with
  | true=>
   simp only[_X,hx]at h;cases h;by_cases hc:(k==ie!&&mA!&&mv!==ds!)=c!
   ·rw[_i hc];simp only[_R,_aA]at hc;exact ef! hc.1.1 (by simp[_X,hx])
   ·rw[_q hc];exact y! (by simp[_X,hx]) | false=>
   simp only[_X,hx]at h;by_cases hc:(k'==ie!&&mA!&&mv!==ds!)=c!;·rw[_i hc];simp only[_X,hx];exact ih h
   ·rw[_q hc];simp only[_X,hx];exact ih h
theorem jo{env:Env}{x:Str}{k:NameKind}:∀{names:List (Str×NameKind)}, i0! (names.map λ(n,k)=>am! (k==ie!&&mA!&&mv!==ds!) (n,NameKind.cell) (n,k)) x k->(k=.cell\/k=bT!)->(x,NameKind.cell)∈g9!\/(x,ie!)∈g9!
 | [],h,_=>by cases h | (n,k')::r,h,hk=>by
  change r0! ((aF! (k'==ie!&&mA!&&mv!==ds!) (n,NameKind.cell) (n,k'))::_)=_ at h;have step:(r0! (nd! (λ(n,k)=>am! (k==ie!&&mA!&&mv!==ds!) (n,NameKind.cell) (n,k)))=b! k)->(x,NameKind.cell)∈(n,k')::r\/(x,ie!)∈(n,k')::r:=λq=> ((@jo env x k r) q hk).elim (λz=>y! (_K _ z)) λz=>Q! (_K _ z);by_cases hc:(k'==ie!&&mA!&&mv!==ds!)=c!
  ·rw[_i hc,_X]at h;split at h
   ·rename_i hb;simp only[_R,_aA]at hc;rw[jr! hb,hc.1.1];exact Q! _aj
   ·exact step h
  ·rw[_q hc,_X]at h;split at h
   ·rename_i hb;cases h;rw[jr! hb];rcases hk with rfl | rfl;·exact y! _aj
    ·exact Q! _aj
   ·exact step h
noncomputable def inner(mp:eY!)(O:St):St:=mp.map λo=>match o with | some j=>(O[j]?).getD a! | none=>none
noncomputable def z9Z(N:aq!)(names:dD! ls!):aq!->eC! eY!
 | [],[]=>true | _::r,none::mp=>z9Z N g9! r mp | x::r,some j::mp=>N[j]? == dJ!&&names.lookup x==b! bT!&&z9Z N g9! r mp | _,_=>false
theorem z8X: ∀{N':List Str} {mp:List (Option Nat)},z9Z N g9! N' mp=c!->mp.length=N'.length
 | [],[],_=>rfl | _::r,none::mp,h=>_at (· + 1) (z8X (N':=r) (mp:=mp) h) | _::r,some _::mp,h=>_at (· + 1) (z8X (N':=r) (mp:=mp) (ne! h).2) | [],none::_,h=>by cases h | [],some _::_,h=>by cases h | _::_,[],h=>by cases h
theorem zd8: ∀{N':List Str} {mp:List (Option Nat)} {i j:Nat} {x:Str},z9Z N g9! N' mp=c!->aj! N' x->aj! mp (b! j)->E! N j x/\names.lookup x=b! bT!
 | [],_,_,_,_,_,h,_=>by cases h | _::_,[],_,_,_,_,_,h=>by cases h | _::_,none::_,0,_,_,_,_,h=>by cases h | _::_,some _::_,0,_,_,h,h1,h2=>by
  have h:=ne! (ne! h).1;simp at h1 h2;subst h1 h2;exact⟨jr! h.1,jr! h.2⟩ | _::r,none::mp,i+1,_,_,h,h1,h2=>zd8 (N':=r) (mp:=mp) h (by exact h1) (by exact h2) | _::r,some _::mp,i+1,_,_,h,h1,h2=>zd8 (N':=r) (mp:=mp) (ne! h).2 (by exact h1) (by exact h2)
section
variable {X:Cx}{ae:de!}{O:St}{H:Hp}{s s1:Shared}{scope:Scope}{N':aq!}{ex:an!}{mp:eY!}
theorem zf9{α:bL!} {l1 l2:dD! α}{c:α}(h:i0! (l1++l2) x c):l1.lookup x=b! c\/(l1.lookup x=a!/\l2.lookup x=b! c):=by
 rw[_bU]at h;cases e:l1.lookup x with
 | some d=>rw[e]at h;exact y! h | none=>rw[e]at h;exact ef! rfl h
theorem zfd(I:K!)(aV:ke!)(aR:∀y∈scope.names,jV! y.1=b! y.2) (aI:∀y∈scope.names,y.2=bT!->fP! y.1=ds!\/fP! y.1=b! bT!)(aW:kv! N' mp=c!) (cf:∀b∈ex,b<at!/\e8!/\iU! b/\b∉jm!/\(b∈lm!\/X.s₀.heap.objs.size<=b)/\(∀x c,gM! x c->c≠b)) (e1:qd!=rI! (id! ({cls:=ka!,data:=lw! #[]})))(e2:s1.os=s.os)(e3:s1.gens=s.gens): Inv ct! [] h8! H s1:=by
 have keep:bG! (dm! b->s1.heap.get? b=b! o):=gG! (by rw[e1];exact pushCells_keeps _ _ b o (_g _ e))
 have ok:=cellsFrom_ok lt! (id! ({cls:=ka!,data:=lw! #[]})) dO! [] ⟨λ_ _ hm=>(nomatch hm),List.Pairwise.nil⟩ (by rw[_aI];exact al!);rw[_aI,<- e1]at ok;have eU:∀x c,i0! (oD! aX! []) x c->gM! x c:=z79 lt! [] (λx c h=>by cases h);have i8:∀x c,gM! x c->c<at!:=λx c h=>by obtain⟨v,q⟩:=nz! x h;exact q.lt
 have own := λx c h=>ok.empty x c (_an h);have cI:∀x c,(zkp X by! at!).cells.lookup x=b! c->(i0! (mo! dO! []) x c/\s1.heap.IsCell c a!/\dO!<=c)\/(gM! x c):=λx c h=>by
  rcases zf9 h with q | ⟨_,q⟩;·exact y! ⟨q,own x c q⟩
  ·exact Q! (eU x c q)
 refine⟨⟨I.ok.mod,aV,I.ok.glob,I.ok.blt,al!,λx y c h1 h2=>?_,ae! ?_,λx c hf h=>?_,I.ok.hd,I.ok.frames,cZ!,cl! ⟨_D (cf b hb).1,λx c h=>?_⟩,gG! (I.bs b o e),_H I.ok.bsz I.sz,λb o e hb=>?_,λb hb hf=>?_,I.stack,I.stkFree⟩, e2,by rw[e3];exact I.bare,Un.kept keep,?_,λx c h=>?_,mq! _,λx c h=>?_,bq! (bS! (show p∈([]) from hp) (by simp)),I.hok.kept keep,?_⟩
 ·rcases cI x c h1 with⟨q1,_,l1⟩ | q1<;>rcases cI y c h2 with⟨q2,_,l2⟩ | q2;·exact name_of_addr ok.apart (_an q1) (_an q2)
  ·exact kT! (_j (i8 y c q2) (_c3 l1)) _
  ·exact kT! (_j (i8 x c q1) (_c3 l2)) _
  ·exact I.ok.inj x y c q1 q2
 ·have hx':(x,NameKind.cell)∈lt!\/(x,ie!)∈lt!:=by
   rcases hx with hx | hx;·exact jo hx cZ!
   ·exact jo hx (Q! rfl)
  show ∃c,i0! (mo! dO! []++oD! aX! []) x c;rw[_bU];cases e:o9! (mo! dO! []) x with
  | some c=>exact co! c | none=>
   rcases hx' with hx' | hx'
   ·obtain⟨c,q⟩:=z5a (aR (x,.cell) hx');rw[q]at e;cases e
   ·obtain⟨c,q⟩:=z8N lt! [] hx' (I.ok.has x (aI (x,bT!) hx' rfl));exact⟨c,by exact q⟩
 ·obtain⟨c',q⟩:=z5a (jr! hf);have h':i0! (mo! dO! []++oD! aX! []) x c:=h;rw[_bU,q]at h';have e := _p h';subst e;exact _bh (Nat.lt_of_succ_le (own x c' q).2)
 ·rcases cI x c h with⟨_,_,l⟩ | q
  ·intro z;rw[z]at l;exact kT! (_j (cf b hb).1 (_c3 l)) _
  ·exact (cf b hb).2.2.2.2.2 x c q
 ·rcases (cf b hb).2.2.2.2.1 with z | z;·exact I.ok.noex b o e z
  ·exact kT! (_j (_j c5! I.ok.bsz) z) _
 ·rcases eK! (I.stkSub b hf) with z | z;·exact (cf b hb).2.2.1 z
  ·exact (cf b hb).2.2.2.1 z
 ·refine⟨bf! a!,?_,λi x v h1 h2 h3=>?_⟩
  ·rw[e1];exact (Heap.Ns.new F! ka!).keeps (pushCells_keeps _ _)
  ·have ci := h2;unfold inner at ci;rw[_A]at ci;cases em:mp[i]? with
   | none=>rw[em]at ci;cases ci | some o=>
    rw[em]at ci;cases o with
    | none=>cases ci | some j=>
     obtain⟨hj,hl⟩:=zd8 aW h1 em;have eV := _an hl;obtain⟨m,hn,eW⟩:=I.loc;have kx := aI _ eV rfl;obtain⟨u,r,L⟩:=eW j x v hj (by
      simp only[_ag]at ci;cases eO:O[j]? with
      | none=>rw[eO]at ci;cases ci | some o=>rw[eO]at ci;exact ci) (by rcases kx with k | k;exact Q! (y! k);exact in! k);refine⟨u,r,Q! ?_⟩;rcases L with⟨k,_⟩ | ⟨_,c,hc,bS⟩;·rcases kx with k' | k'<;>(rw[k]at k';cases k')
     ·refine⟨?_,c,?_,bS.keeps keep⟩
      ·rcases z1p hl with q | ⟨_,q⟩;·exact Q! q
       ·exact y! q
      ·show i0! (mo! dO! []++oD! aX! []) x c;rw[_bU];cases e:o9! (mo! dO! []) x with
       | some c'=> exact bS! ((jR _ _ _ (_an e)).resolve_left (by simp)) (λz=>by
       have a:=aR _ z;rw[hl]at a;cases a) | none=>
        obtain⟨c2,q⟩:=z8N lt! [] eV ⟨c,hc⟩;have q2:=eU x c2 q;rw[hc]at q2;cases q2;exact q
 ·rcases cI x c h with⟨_,q,_⟩ | q;·exact c0! q
  ·obtain⟨v,z⟩:=nz! x q;exact⟨v,z.keeps keep⟩
 ·rcases cI x c h with⟨_,_,l⟩ | q;·exact sa! (by lia)
  ·exact I.freeC x c q
 ·unfold inner;rw[_z];exact z8X aW
end
section
variable {M:Model}{A:Around}{E:bX!}{s:Shared}
theorem zd4(h:Q {scope:=scope,locals:=s.heap.objs.size,globals:=env.globals,cells:=mo! dO! cl,qual:=env.qual,func:=none,code:=env.code,frame:=env.frame,builtins:=env.builtins} {s with heap:=rI! (id! ({cls:=ka!,data:=lw! #[]}))}): fG! M A (newFunctionEnv by! env.globals cl [] env.qual a! X! (b! env)) Q E:=by
 refine _a (wpAny_alloc (_a (wpAny_layCells _ (λname kind cells=>by cases hkc:kind==NameKind.cell<;>simp[hkc]) _ _ _ _ ?_)));rw[(_aI ..)];exact _a (_m (_m h))
end
section
variable {prog:Program}{w:World}{A:Around}{E:bX!}{R:Result->ev!}{s:Shared}
theorem zaB(I:Nat->ev!) (turn:∀n s,I n s->cB! w A (o6! it) (λr s₁=>match r with
   | none=>R (.ok .next) jo! | some v=>cB! w A (letOwnedTupleGo bE it v) (λ_ j3=>cB! w A (assign bE env v) (λ_ s₂=> cB! w A (forIn aC c! λc r=>aF! r (do let ok <- qa! c env (kh! c);so! ok) (so! r)) (λok s₃=> aF! ok (cB! w A (kh! az) (λx s₄=> cB! w A (pU! "list.append" [acc,x]) (λ_ s₅=>∃m,m<n/\I m s₅) iW! s₄) iW! s₃) (∃m,m<n/\I m s₃)) iW! md!) iW! j3) iW! jo!) iW! s) (n:Nat)(h:I n s): kC! h9! A (.compLoop (f5! [ck! bE ic! aC 0]) 0 it acc env) R s:=by
 refine codeAny_loop rfl I (λn s hI=>(wpAny_noted ?_)) n h;refine _a (_ck (_a (_Z (turn n s hI) (λr s₁ h₁=>?_) rg!)));cases r with
 | none=>exact _m h₁ | some v=>
  refine _a (_Z h₁ (λ_ j3 mw=>(_a (_Z mw (λ_ s₂ h₂=>_a (_Z h₂ (λok s₃ h₃=>?_) rg!)) rg!))) rg!);cases ok with
  | false=>exact _m (iq! h₃) | true=> exact _a (_a (_Z h₃ (λx s₄ h₄=>_a (_Z h₄ (λ_ s₅ h₅=>_m (_m (iq! h₅))) rg!)) rg!))
end
def zc6(X:Cx)(aC:aE!)(t:TT):g!:= ∀(ae:List (Addr×Obj))(s:Shared)(O:St)(H:Hp)(Q:Bool->Hp->Prop),K!->t O H Q-> bO! (forIn aC c! λc r=>aF! r (do let ok <- qa! c aX! (hc! c);so! ok) (so! r)) (TP X ae O Q) s
theorem zk7: zc6 X [] (λ_ H Q=>Q c! H):=o5! (wpAny_tests_nil ⟨H,I,h⟩)
theorem zko(h:PT X c t):zc6 X [c] t:=λae s O H Q I hq=>wpAny_tests_one (h ae s O H Q I hq)
theorem Inv.track{O:St} (I:K!)(f:zbK X ae H a)(new:jA aT! X.w (g4! o) F! a o):cI! (g4! o) s:=by
 obtain⟨f0,f1,f2,f3,f4,f5⟩:=f;exact I.step (ch:=[a]) (cl! (by
  have e:b=a:=by simpa using hb
  subst e;exact ck! f3 f1 f4 f5)) (λb o _ _ _ e _=>e) (λb o _ _ _ e _=>gT! o.slots) (λb o hb _ n=>by rw[zJ (λz=>hb (by simp[z]))];exact n) (λb o _ e=>gT! o) (λb xs q=>by rw[zJ (xo q f0)];exact q) (λb u xs q=>by rw[zJ (xo q f0)];exact q) (λb ps q=>⟨#[],by rw[zJ (xo q f0),q];rfl⟩) (λ_ q=>q) (λb u e=>by
  by_cases hb:b=a;·subst hb;rw[yu]at e;cases e;exact new
  ·rw[zJ hb]at e;exact (nU! b u e).stay (λ_ _ _ q=>q) (λc q=>by rw[zJ (xo q f0)];exact q) λc xs q=>by rw[zJ (xo q f0)];exact q) I.bare
def zkn(wi:TI)(mp:eY!)(g:TG)(ti:TT)(te:TE):TE:=gI! (wi O H λJ H1=>∃W:Nat->Nat->List V->Hp->Prop,(∃m,W 0 m [] H1)/\∀i m ys H,W i m ys H-> (J.stop i H/\oE!/\∀p,gB!->Q b6! (fL! hW!))\/ (J.go i H/\∀x H',J.yld i H x H'->g x h8! H' λO2 H2=>(O2.length=q! h8!/\∀(i:Nat) v,aj! h8! bP!->aj! O2 bP!)/\ ti O2 H2 λb H3=>aF! b (te O2 H3 λy H4=>oE!/\∃m',m'<m/\W (i+1) m' (ys++[y]) H4) (∃m',m'<m/\W (i+1) m' ys H3)))
def z58(X:Cx)(ae:de!)(O:St)(C:Addr)(Q:VK)(acc:Value)(s':Shared):g!:= ∃v Hf,cI! Hf s'/\ww v acc/\Q v Hf/\(∃m,s'.heap.Ns C m)/\zbK X ae Hf C
theorem zj8{gens:d9! Comprehension}{O:St} {RR:dR!->lg!->Result->ev!} (aV:ke!)(aR:∀y∈scope.names,jV! y.1=b! y.2) (aI:∀y∈scope.names,y.2=bT!->fP! y.1=ds!\/fP! y.1=b! bT!)(aW:kv! N' mp=c!) (I2:cI! H2 md!)(T:zji aT! X.w X.K tg J fp it tn)(bj:tn 0 s₂.heap)(f2:∀b∈fp,zbK X ae H2 b) (go:∀(acc:Addr)(s₃ s₄:Shared),cI! H2 s₃->H2 acc=a!->zbK X ae H2 acc->(∀b∈fp,b<acc)->acc≠n7!-> Inv (kr! X (acc::fp) H2) [] h8! H2 s₄->s₄.heap.get? acc=b! (sc! [])->tn 0 s₄.heap-> (∀{H':Hp}{o:Obj},(∀b∈fp,f3! b)->∀b∈fp,zbK (kr! X (acc::fp) H2) [(acc,o)] H' b)-> (∀{P:List (Addr×Obj)}{O':St}{H':Hp}{s':Shared}{af:List Value},Inv (kr! X (acc::fp) H2) P O' H' s'->f3! acc->rO!=b! kd!->Inv (kr! X (acc::fp) H2) ([(acc,kd!)]++P) O' H' s')-> kC! (oH! X.w) X.A (.compLoop (f5! (gz! 0::gens)) 0 ko! (w! acc) (zkp X by! n7!)) (RR (w! acc) n7!) s₄): lN! (newList []) (λacc s₃=>lN! (newFunctionEnv by! X.env.globals (oD! aX! []) [] X.env.qual a! X! (b! aX!)) (λcJ s₄=> kC! (oH! X.w) X.A (.compStart (f5! (gz! 0::gens)) 0 ko! acc {cJ with scope:=relabel by! aX!}) (RR acc cJ.locals) s₄) E s₃) E md!:=by
 refine _aG ?_;have dZ := I2.hok.fresh al!;have fA := I2.fpOk al! dZ;generalize bM:s₂.heap.objs.size=acc at dZ fA ⊢;have I3:cI! H2 ({s₂ with heap:=s₂.heap.push {cls:=db!,data:=oN! ([]:bU!)}}):=I2.kept (l1! _ e);have mz:e6! (s₂.heap.push {cls:=db!,data:=oN! ([]:bU!)}) acc (sc! []):=by rw[<- bM];exact g2!
 have mE:eb! (s₂.heap.push {cls:=db!,data:=oN! ([]:bU!)})=acc+1:=by rw[_aI,bM]
 have mF:bG! (s₂.heap.get? b=b! o->e6! (s₂.heap.push {cls:=db!,data:=oN! ([]:bU!)}) b o):=l1! _ e;generalize dg:({s₂ with heap:=s₂.heap.push {cls:=db!,data:=oN! ([]:bU!)}}:nR!)=s₃ at I3 ⊢;have gT:s₃.heap.get? acc=b! (sc! []):=by rw[<- dg];exact mz
 have cY:n7!=acc+1:=by rw[<- dg];exact mE
 have gU:bG! (s₂.heap.get? b=b! o->s₃.heap.get? b=b! o):=by rw[<- dg];exact mF
 have flt:∀b∈fp,b<acc:=cl! (by
  obtain⟨o,e,_⟩:=T.obj 0 _ bj b hb;rw[<- bM];exact c5!)
 have gV := cl! (_D (flt b hb));have mG := T.keep 0 _ _ bj (o7! (gU b o e));refine zd4 ?_;rw[uQ];have I4:=zfd (s1:={s₃ with heap:=rI! (s₃.heap.push {cls:=ka!,data:=lw! #[]})}) I3 aV aR aI aW (cl! (by
  rcases eK! hb with z | hb
  ·subst z;exact⟨by rw[cY];exact _ce _,dZ,fA.2.1,fA.2.2.1,fA.2.2.2.1,fA.2.2.2.2.1⟩
  ·have q:=f2 b hb;exact⟨by rw[cY];exact _aW (flt b hb),q.1,q.2.1,q.2.2.1,q.2.2.2.1,q.2.2.2.2.1⟩)) rfl rfl rfl;have j4:bG! (s₃.heap.get? b=b! o->e6! (rI! (s₃.heap.push {cls:=ka!,data:=lw! #[]})) b o):=gG! (pushCells_keeps _ _ b o (_g _ e));generalize hs4:({s₃ with heap:=rI! (s₃.heap.push {cls:=ka!,data:=lw! #[]})}:nR!)=s₄ at I4 ⊢;have gW:s₄.heap.get? acc=b! (sc! []):=by rw[<- hs4];exact j4 _ _ gT
 have fZ:tn 0 s₄.heap:=T.keep 0 _ _ mG (o7! (by rw[<- hs4];exact j4 b o e))
 have eX:acc≠n7!:=by rw[cY];exact _D (_ce _)
 have cK := cl! (I4.ok.exf b hb).2;have bF:∀{H':Hp}{o:Obj},(∀b∈fp,f3! b)->∀b∈fp,zbK (kr! X (acc::fp) H2) [(acc,o)] H' b:=λ{H' o} hn b hb=> ⟨hn b hb,_D (by show b<n7!;rw[cY];exact _aW (flt b hb)),λhf=>I4.ok.exfs b (_K _ hb) hf,y! (_K _ hb),cK b (_K _ hb),bq! (by
   have e:p=(acc,o):=by simpa[yb] using hp
   rw[e];exact _bT (gV b hb))⟩;have gX:∀(af:List Value)(v:Option Value),(kd!).data≠.cell v:=λaf v z=>by
  have z' := z;cases z'
 have dG:∀{P:List (Addr×Obj)}{O':St}{H':Hp}{s':Shared}{af:List Value},Inv (kr! X (acc::fp) H2) P O' H' s'->f3! acc->rO!=b! kd!->Inv (kr! X (acc::fp) H2) ([(acc,kd!)]++P) O' H' s':=λ{P O' H' s' af} J' n' e'=> J'.pins_of (bq! (by
   rcases nX! hp with hp | hp
   ·have e:p=(acc,kd!):=by simpa using hp
    subst e;exact⟨e',n',eX,λhf=>I4.ok.exfs acc _aj hf,gX af⟩
   ·exact J'.pin p (_O _ hp)))
 have loop:=go acc s₃ s₄ I3 dZ fA flt eX I4 gW fZ bF dG;exact codeAny_compStart_list loop (T.self _ 0 _ _ _ fZ loop)
theorem z3g{O:St} {RR:dR!->lg!->Result->ev!} (hc:b2!)(hg:lY! ct! tg g)(ht:lU! ct! aC ti)(he:∀ex s H,PE ct! az te) (aV:ke!)(aR:∀y∈scope.names,jV! y.1=b! y.2) (aI:∀y∈scope.names,y.2=bT!->fP! y.1=ds!\/fP! y.1=b! bT!)(aW:kv! N' mp=c!) (I2:cI! H2 md!)(T:zji aT! X.w X.K tg J fp it tn)(bj:tn 0 s₂.heap)(f2:∀b∈fp,zbK X ae H2 b) (W:Nat->Nat->aG!->bQ!)(w0:∃m,W 0 m [] H2) (turn:∀i m ys H,W i m ys H-> (J.stop i H/\oE!/\∀p,gB!->Q b6! (fL! hW!))\/ (J.go i H/\∀x H',J.yld i H x H'->g x h8! H' λO2 H2=>(O2.length=q! h8!/\∀(i:Nat) v,aj! h8! bP!->aj! O2 bP!)/\ ti O2 H2 λb H3=>aF! b (te O2 H3 λy H4=>oE!/\∃m',m'<m/\W (i+1) m' (ys++[y]) H4) (∃m',m'<m/\W (i+1) m' ys H3))) (mH:∀acc C s',z58 X ae O C Q acc s'->RR acc C (.ok .next) s'): lN! (newList []) (λacc s₃=>lN! (newFunctionEnv by! X.env.globals (oD! aX! []) [] X.env.qual a! X! (b! aX!)) (λcJ s₄=> kC! (oH! X.w) X.A (.compStart (f5! [gz! 0]) 0 ko! acc {cJ with scope:=relabel by! aX!}) (RR acc cJ.locals) s₄) E s₃) E md!:=by
 refine zj8 aV aR aI aW I2 T bj f2 λacc s₃ s₄ I3 dZ fA flt eX I4 gW fZ bF eY=>?_;have gV := cl! (_D (flt b hb));have cK := cl! (I4.ok.exf b hb).2;have dG:∀{O':St}{H':Hp}{s':Shared}{af:List Value},Inv (kr! X (acc::fp) H2) [] O' H' s'->f3! acc->rO!=b! kd!->Inv (kr! X (acc::fp) H2) [(acc,kd!)] O' H' s':=eY;obtain⟨m0,w0⟩:=w0;have loop:kC! (oH! X.w) X.A (.compLoop (f5! [gz! 0]) 0 ko! (w! acc) (zkp X by! n7!)) (RR (w! acc) n7!) s₄:=by
  refine zaB (λn s'=>∃i ys af H',Inv (kr! X (acc::fp) H2) [] h8! H' s'/\tn i gH!/\(∀b∈fp,f3! b)/\f3! acc/\rO!=b! kd!/\xl ys af/\W i n ys H') ?_ m0 ⟨0,[],[],H2,I4,fZ,cl! (f2 b hb).1,dZ,gW,cu!,w0⟩;rintro n s5 ⟨i,ys,af,H5,I5,j5,n5,gY,mI,gb,w5⟩;have j6:=dG I5 gY mI;rcases turn i n ys H5 w5 with⟨stop,hz,q⟩ | ⟨go,step⟩
  ·refine _Z (T.done (kr! X (acc::fp) H2) rfl rfl rfl hc i _ s5 _ H5 iW! j6 (bF n5) j5 stop) (λr s6 ⟨hr,I6⟩=>?_) λ_ _ z=>z;subst hr;have mJ:=(I6.pin (acc,kd!) (by simp)).1;have un := I6.base;have I7 := I3.call' (I6.os) un I6.hok I6.bare (cl! (by
    rcases eK! hb with z | hb;·subst z;exact ck! fA.2.2.2.1 fA.2.1 fA.2.2.2.2.1 fA.2.2.2.2.2
    ·exact ck! (f2 b hb).2.2.2.1 (f2 b hb).2.1 (f2 b hb).2.2.2.2.1 (f2 b hb).2.2.2.2.2))
   have C7 := I3.fpOk al! I6.free;refine mH _ _ s6 ⟨w! acc,upd H5 acc hW!,I7.track ⟨gY,fA.2⟩ ?_,rfl,q acc gY,?_,?_,C7.2⟩;·exact⟨hz,af,_,gb,mJ⟩
   ·obtain⟨m,hm,_⟩:=I6.loc;exact as! m hm
   ·rw[zJ (_bT eX)];exact I6.free
  ·refine _Z (T.item (kr! X (acc::fp) H2) rfl rfl rfl hc i _ s5 _ H5 iW! j6 (bF n5) j5 go) (λr s6 ⟨u,hr,h6⟩=>?_) λ_ _ z=>z;subst hr;refine _Z h6 (λ_ s7 ⟨x,H7,I7,r7,y7,gZ,n7⟩=>?_) λ_ _ z=>z;have mK:=I7.pinned (bF n7) (T.obj _ _ gZ);refine _Z (hg _ _ _ _ s7 h8! H7 x u _ mK r7 (step x H7 y7)) (λ_ s8 ⟨O8,H8,I8,⟨kl,kv⟩,q8⟩=>?_) λ_ _ z=>z;refine _Z (ht _ _ _ _ s8 O8 H8 _ I8 q8) (λb s9 ⟨H9,I9,q9⟩=>?_) λ_ _ z=>z;have eZ:∀{O':St}{H':Hp}{s':Shared},Inv (kr! X (acc::fp) H2) ([(acc,kd!)]++zbs fp s7.heap) O' H' s'->(∀b∈fp,f3! b)/\f3! acc/\rO!=b! kd!/\tn (i+1) gH!/\∀b∈fp,∀o,s7.heap.get? b=b! o->su!=b! o:=λ{O' H' s'} J'=>by
    have z:=J'.pin (acc,kd!) (by simp[yb]);have zz:∀b∈fp,∀o,s7.heap.get? b=b! o->su!=b! o/\f3! b:=o7! (by
     have y:=J'.pin (b,o) (_O _ (_O _ (jI hb e)));exact as! y.1 y.2.1)
    refine⟨cl! ?_,z.2.1,z.1,T.keep _ _ _ gZ (o7! (zz b hb o e).1),o7! (zz b hb o e).1⟩;obtain⟨o,e,_⟩:=T.obj _ _ gZ b hb;exact (zz b hb o e).2
   cases b with
   | false=>
    rw[_q (by decide)]at q9 ⊢;obtain⟨m',lt,w9⟩:=q9;obtain⟨z1,z2,z3,z4,_⟩:=eZ I9;exact⟨m',lt,i+1,ys,af,H9,(I9.pins_of (bq! (bS! hp (by simp)))).weak kl.symm kv,z4,z1,z2,z3,gb,w9⟩ | true=>
    rw[gU!]at q9 ⊢;refine _Z (he _ _ _ _ s9 O8 H9 _ I9 q9) (λyv mL ⟨y,mM,j7,mO,hz,m',lt,mP⟩=>?_) λ_ _ z=>z;obtain⟨z1,z2,z3,z4,_⟩:=eZ j7;have zl:iL!<=aW!:=by rw[_s,<- gb.length];exact hz
    refine append_at z3 λgc sb g9=>?_;have hJ:=(j7.pins_of (pins':=[]) (bq! (bS! hp (by simp)))).weak kl.symm kv;have mQ := hJ.turned (t':=mL.toks) (kA! (a4! (sb.2 b hb) e)) z2 eX (y! _aj) (cK acc _aj) (bq! (bS! hp (by simp[yb])));exact⟨m',lt,i+1,ys++[y],af++[yv],mM,mQ,T.keep _ _ _ z4 (o7! (a4! (sb.2 b (gV b hb)) e)),z1,z2,g9.trans (_at some (LCg.lst_snoc af yv)),gb.append (eI! mO cu!),mP⟩
 exact loop
section
variable {X:Cx}{tg iter az:Expr}{aC:aE!}{scope:Scope}{pos aF py:Pos}{wi:TI}{g:TG}{ti:TT}{te:TE}{N':aq!}{mp:eY!}
theorem z1R{O:St} (I:K!)(f:zbK X ae H C)(sb:Heap.SameBut C F! h'):lL! ({s with heap:=h'}):= I.turned (kA! (a4! (sb.2 b hb) e)) f.1 f.2.1 f.2.2.2.1 f.2.2.2.2.1 f.2.2.2.2.2
theorem zgL(N':aq!)(mp:eY!)(hc:b2!)(hi:PI X tg ic! wi)(hg:lY! ct! tg g)(ht:lU! ct! aC ti)(he:∀ex s H,PE ct! az te) (aV:ke!)(aR:∀y∈scope.names,jV! y.1=b! y.2) (aI:∀y∈scope.names,y.2=bT!->fP! y.1=ds!\/fP! y.1=b! bT!)(aW:kv! N' mp=c!) (hs:lc! (k4! x=lb!)):S! (f5! [gz! 0]) (zkn wi mp g ti te):=by
 refine iI! (_bQ rfl hs (kC λy hy hf=>I.ok.has _ (aI y hy hf)) aV (λy hy hl=>by rw[aR y hy,hl]) (thn (hi ae s O H _ I h) λxv s₁ h₁=>thn h₁ λeK s₂ h₂=>?_));obtain⟨it,fp,tn,J,H2,e,I2,T,bj,f2,W,w0,turn⟩:=h₂;subst e;refine z3g hc hg ht he aV aR aI aW I2 T bj f2 W w0 turn ?_;rintro acc C s' ⟨v,Hf,I3,r,q,⟨m,hm⟩,f⟩;exact⟨m,hm,λh' sb=>⟨v,Hf,z1R I3 f sb,r,q⟩⟩
theorem zf1(N':aq!)(mp:eY!)(hN:X.N.Nodup)(hy:gr! y)(cL:ii! y) (hc:b2!)(hi:PI X tg ic! wi)(hg:lY! ct! tg g)(ht:lU! ct! aC ti)(he:∀ex s H,PE ct! az te) (aV:ke!)(aR:∀y∈scope.names,jV! y.1=b! y.2) (aI:∀y∈scope.names,y.2=bT!->fP! y.1=ds!\/fP! y.1=b! bT!)(aW:kv! N' mp=c!) (hs:lc! (k4! x=lb!)) (cM:A! (mr! (f5! [gz! 0]) (b! gC!) qp!=ru!)) (hf:ik! (hn! y\/fY! y)): PS X (.Assign [gC!] (f5! [gz! 0]) aF) (zrP (zkn wi mp g ti te) (zev i)):=by
 intro ae s O H D I h;rw[exec_Assign_Name_used _ _ _ _ cM];refine _a (_ck (_a (_a (_Z (_bQ rfl hs (kC λy hy hf=>I.ok.has _ (aI y hy hf)) aV (λy hy hl=>by rw[aR y hy,hl]) (thn (hi ae s O H _ I h) λxv s₁ h₁=>thn h₁ λeK s₂ h₂=>?_)) (λ_ s' hq=>_m (_m hq)) λ_ _ e=>e))));obtain⟨it,fp,tn,J,H2,e,I2,T,bj,f2,W,w0,turn⟩:=h₂;subst e;refine z3g (Q:=λv H'=>D.nx (kV! i) H') hc hg ht he aV aR aI aW I2 T bj f2 W w0 turn ?_;rintro acc C s' ⟨v,Hf,I3,r,q,⟨m,hm⟩,f⟩;exact _cY (z6X I3 hN hy cL r (λeM I4 ⟨a,sb,ha⟩=>⟨m,hm.sameBut sb (by
  rcases ha with z | z;·rw[z];exact f.2.1
  ·exact _bT (f.2.2.2.2.1 y a z)),λh' hR=>⟨_,Hf,z1R I4 f hR,q⟩⟩) hf)
end
structure M2(X:Cx)(o:Expr)(m:Str)(ao:Pos)(e f:Expr)(ak:Pos):g! where
 base:lO! o m gw!=gw!
 few:(hs! (hP! ak [e,f]) (! x.1)&&hs! (nA! ak []) (iF! x.1) && bw! (q! ([e,f]:aE!)+q! ([]:gO!)+(np! ([]:gO!) 0 1)<30))=c!
 line:pS!=c!
 trees:hP! ak [e,f]=[dQ!,dY! f]
end L2
set_option maxHeartbeats 4000000
namespace Dd
open L2
theorem zdC(xs:aE!)(k:Nat)(p:Pos)(es:aE!)(env:Env):gn! (hH! xs k p::es)=(r!,kh! (hH! xs k p))::gn! es:=rfl
theorem zjU(xs:aE!)(p:Pos)(es:aE!)(env:Env):gn! (.List xs p::es)=(r!,kh! (.List xs p))::gn! es:=rfl
theorem xJ(f:Expr)(xs:aE!)(ks:gO!)(p:Pos)(es:aE!)(env:Env):gn! (fw! f xs ks p::es)=(r!,kh! (fw! f xs ks p))::gn! es:=rfl
theorem zje(a:Expr)(o:Operator)(b:Expr)(p:Pos)(es:aE!)(env:Env):gn! (.BinOp a o b p::es)=(r!,kh! (.BinOp a o b p))::gn! es:=rfl
theorem z10(a b:Expr)(p:Pos)(es:aE!)(env:Env):gn! (rz! b p::es)=(r!,kh! (rz! b p))::gn! es:=rfl
theorem zH(a:Expr)(g:d9! Comprehension)(sc:Scope)(p:Pos)(es:aE!)(env:Env):gn! (.ListComp a g sc p::es)=(r!,kh! (.ListComp a g sc p))::gn! es:=rfl
theorem z54(a:Expr)(o:d9! CmpOp)(b:aE!)(p:Pos)(es:aE!)(env:Env):gn! (.Compare a o b p::es)=(r!,kh! (.Compare a o b p))::gn! es:=rfl
theorem z8z(c:Const)(j:Nat)(p:Pos)(es:aE!)(env:Env):gn! (lX! c p::es)=(r!,kh! (lX! c p))::gn! es:=rfl
theorem zr(x:Str)(p:Pos)(es:aE!)(env:Env):gn! (fC! p::es)=(r!,kh! (fC! p))::gn! es:=rfl
theorem zno(o:UnaryOp)(a:Expr)(p:Pos)(es:aE!)(env:Env):gn! (.UnaryOp o a p::es)=(r!,kh! (.UnaryOp o a p))::gn! es:=rfl
inductive D where | non | bl (b:Bool) | int (i:Int) | str (x:Str) | tup (xs:v!) | lst (xs:v!) | dct | loc (l:Nat) | dlo (l:Nat) | fn (x:Str) | exc (x:Str) | scr (xs:v!)
noncomputable abbrev Sto:=d9! v!
noncomputable abbrev Ev:=mm! D
inductive R(α:bL!) where | ok (a:α)(s:Sto) | ex (c:Str)(s:Sto) | no
noncomputable def R.bind(r:R α)(k:α->el! β):R β:=match r with
 | .ok a s=>k a s | .ex c s=>em! | .no=>.no
@[simp] theorem R.bind_ok{α β:bL!}(a:α)(s:Sto)(k:α->el! β):B! (ep! a s) k=k a s:=U!
noncomputable abbrev Rb:=@R.bind_ok
@[simp] theorem R.bind_ex(c:Str)(s:Sto)(k:α->el! β):B! (R.ex c s:R α) k=em!:=U!
noncomputable def D.flat:eC! D
 | .tup xs=>flats xs | .lst xs=>flats xs | .scr xs=>flats xs | .loc _=>false | .dlo _=>false | _=>true
where flats:eC! v!
 | []=>true | x::xs=>x.flat&&flats xs
theorem flN:da! []:=U!
theorem flC:sd! (x::xs)=(x.flat&&sd! xs):=U!
noncomputable def zl6(C a:Addr):HO:=.ext λh=>∃o vs,cG! a/\gd!=ap!/\ib!=eJ! vs
structure Gm where
 m:Str->aS!
 K:W.Frag
noncomputable abbrev gm(X:Cx):Gm:=as! fu! X.K
def IsL(H:Hp)(a:Addr):g!:=∃vs,ci! cp!
def IsC(H:Hp)(a:Addr):g!:=(∃ah,ci! lf!)\/(∃o ah,ci! (d2! lf!))\/(∃ah,a3! ah/\ci! gW!)\/∃o ah,ci! (d2! gW!)
def Own(H:Hp)(Y:an!)(b:Addr):g!:=∃a∈Y,∃ah k,ci! gW!/\(k,mM!)∈ah
theorem IsL.notC(h:IsL H a)(h':IsC H a):False:=by obtain⟨_,e⟩:=h;rcases h' with⟨_,e'⟩ | ⟨_,_,e'⟩ | ⟨_,_,e'⟩ | ⟨_,_,e'⟩<;>rw[e]at e'<;>cases e'
noncomputable def zvu:Key->D
 | .inl i=>aa! | .inr x=>aY!
noncomputable def zvx:V->fD!
 | .int i=>ch! | .bl b=>b! (.bl b) | _=>none
noncomputable def ztM:v!->gm! (d9! Key) V->g!
 | [],ah=>ah=[] | d::ds,ah=>∃k v x r,ah=(k,v)::r/\zvx v=dJ!/\d=p! [p! (k.map zvu),x]/\ztM ds r
def KL(K:W.Frag)(a:Addr)(xs:aG!):g!:=∃(o:Obj)(af:Array Value)(n:Nat),oK!=b! o/\gd!=db!/\o.dict=a!/\ib!=.seq af n/\af.size<=aW!/\xl xs o1!
section
variable (mg:Gm)
mutual
noncomputable def Den(H:Hp)(Y:an!):D->V->g!
 | .non,v=>v=aJ! | .bl b,v=>v=.bl b | .int i,v=>v=aa! | .str x,v=>v=aY! | .tup ds,v=>∃a vs,v=ac!/\ci! (p! vs)/\yj H Y ds vs | .lst ds,v=>∃a o vs,v=ac!/\ci! (d2! cp!)/\yj H Y ds vs | .dct,v=>∃a,v=ac!/\ci! (.dK []) | .loc l,v=>∃a,v=ac!/\E! Y l a/\IsL H a | .dlo l,v=>∃a,v=ac!/\E! Y l a/\IsC H a | .fn x,v=>∃a,v=ac!/\mg.m x=b! ac! | .exc x,v=>∃a C,v=ac!/\mg.m x=b! ap!/\ci! (zl6 C a) | .scr ds,v=>∃a vs,v=ac!/\((∃o,ci! (d2! cp!))\/KL nf! a vs)/\yj H Y ds vs
noncomputable def yj(H:Hp)(Y:an!):v!->aG!->g!
 | [],vs=>vs=[] | d::ds,vs=>∃v r,vs=v::r/\Den H Y d v/\yj H Y ds r
end
noncomputable def zfe(H:Hp)(Y:an!):v!->gm! Key V->g!
 | [],ah=>ah=[] | d::ds,ah=>∃k ys b vs r,ah=(o3! k,mM!)::r/\pP! ys/\((d=p! [d! k,hW!]/\cR! cp!)\/(d=p! [d! k,hW!,aJ!]/\∃o,cR! (d2! cp!)))/\zfe H Y ds r
def zpz(ys:v!):g!:=∀d∈ys,∃k zs,d=p! [d! k,ad! zs,aJ!]
def jJ(H:Hp)(Y:an!)(xs:v!)(a:Addr):g!:=(∃vs,ci! cp!/\ht!)\/(∃ah,ci! lf!/\ztM xs ah)\/(∃o ah ys,ci! (d2! lf!)/\xs=aJ!::ys/\ztM ys ah)\/(∃ah,a3! ah/\ci! gW!/\zfe mg H Y xs ah)\/∃o ah ys,ci! (d2! gW!)/\xs=aJ!::ys/\zfe mg H Y ys ah/\zpz ys/\a3! ah
structure Rep(H:Hp)(Y:an!)(s:Sto):g! where
 len:qq!=cm!
 nd:Y.Nodup
 cell:∀(l:Nat)(xs:List D),E! s l xs->∃a,E! Y l a/\jJ mg H Y xs a
 flat:∀xs∈s,da! xs
 own:∀b,Own H Y b->b∉Y
 uq:∀a∈Y,∀a'∈Y,∀ah bn (i j:Nat) k k' b,ci! gW!->H a'=b! (.dK bn)->aj! ah (k,mM!)->E! bn j (k',mM!)->a=a'/\i=j
structure vD(H:Hp)(Y:an!)(H':Hp)(Y':an!)(s':Sto):g! where
 rep:Rep mg H' Y' s'
 pre:Y <+: Y'
 keep:bG! (cR! o->b∉Y->(Own H Y b->∀vs,o≠cp!)->H' b=b! o)
 new:∀a∈Y',a∉Y->H a=a!
 mt:∀a∈Y,(IsL H a/\IsL H' a)\/(IsC H a/\IsC H' a/\∀o u,ci! (d2! u)->H' a=b! (d2! u))
 dom:∀b,f3! b->e8!
 ow:∀b,Own H' Y' b->Own H Y b\/e8!
end
section
variable {mg:Gm}{H H' H1 H2:Hp}{Y Y' Y1 Y2:an!}{s s' s1 s2:Sto}
theorem jJ.kind(h:jJ mg H Y xs a):IsL H a\/IsC H a:=ng! (λ⟨vs,e,_⟩=>gT! vs) (λh=>ng! (λ⟨k,e,_⟩=>gT! k) (λh=>ng! (λ⟨o,k,_,e,_⟩=>cr! k e) (λh=>ng! (λ⟨k,n,e,_⟩=>aV! k n e) (λ⟨o,k,_,e,_⟩=>cr! k e))))
theorem Rep.mt(r:d7!):∀a∈Y,IsL H a\/IsC H a:=λa ha=>by
 obtain⟨l,hl,e⟩:=ge! ha;have eI:l<cm!:=by rw[<- r.len];exact hl
 obtain⟨b,e1,c⟩:=qr! l (s[l]) (_b eI);rw[_b hl]at e1;rw[<- e,(_p e1)];exact c.kind
theorem Rep.at_(r:d7!){l:Nat} (h:E! s l xs)(ha:E! Y l a)(k:IsL H a):∃vs,ci! cp!/\ht!:=by
 obtain⟨b,e1,c⟩:=qr! l xs h;rw[ha]at e1;cases e1;rcases c with c | c;·exact c
 ·exact bZ! (k.notC (c.imp (λ⟨k,e,_⟩=>gT! k) λh=>ng! (λ⟨o,k,_,e,_⟩=>cr! k e) (λh=>ng! (λ⟨k,n,e,_⟩=>aV! k n e) (λ⟨o,k,_,e,_⟩=>cr! k e))))
theorem vD.refl(r:d7!):vD mg H Y H Y s:=⟨r,_ds _,λ_ _ h _ _=>h,λa h1 h2=>bS! h1 h2,λa ha=>(r.mt a ha).imp (λh=>as! h h) λh=>⟨h,h,λ_ _ q=>q⟩,λ_ h=>h,λ_ h=>y! h⟩
theorem vD.trans(a:vD mg H Y H1 Y1 s1)(b:vD mg H1 Y1 H2 Y2 s2):vD mg H Y H2 Y2 s2:=by
 refine⟨b.rep,a.pre.trans b.pre,λc o h n g=>?_,λc h1 h2=>?_,λc hc=>?_,λc h=>a.dom c (b.dom c h),λc h=>(b.ow c h).elim (a.ow c) λz=>Q! (a.dom c z)⟩
 ·refine b.keep c o (a.keep c o h n g) (λz=>?_) λz=>?_;·rw[a.new c z n]at h;cases h
  ·rcases a.ow c z with z | z;·exact g z
   ·rw[z]at h;cases h
 ·by_cases h3:c∈Y1;·exact a.new c h3 h2
  ·exact a.dom c (b.new c h1 h3)
 ·have j8 := a.pre.subset hc;rcases a.mt c hc with⟨k1,k2⟩ | ⟨k1,k2,k3⟩
  ·rcases b.mt c j8 with⟨_,q⟩ | ⟨q,_,_⟩;·exact y! ⟨k1,q⟩
   ·exact bZ! (k2.notC q)
  ·rcases b.mt c j8 with⟨q,_⟩ | ⟨_,q,q3⟩;·exact bZ! (q.notC k2)
   ·exact Q! ⟨k1,q,λo u z=>q3 o u (k3 o u z)⟩
theorem vD.stay(stp:vD mg H Y H' Y' s') (h:cR! o)(hn:∀vs,o≠cp!)(ff:∀ah,o≠lf!:=by intro vs z;cases z)(hV:∀ah,a3! ah->o≠gW!:=by intro ah g z;cases z<;>exact g rfl):H' b=b! o:=by
 by_cases hb:b∈Y
 ·rcases stp.mt b hb with⟨⟨vs,e⟩,_⟩ | ⟨⟨vs,e⟩ | ⟨p,vs,e⟩ | ⟨vs,g,e⟩ | ⟨p,vs,e⟩,_,q⟩
  ·rw[h]at e;exact bS! (_p e) (hn vs)
  ·rw[h]at e;exact bS! (_p e) (ff vs)
  ·rw[h]at e;cases e;exact q _ _ h
  ·rw[h]at e;exact bS! (_p e) (hV vs g)
  ·rw[h]at e;cases e;exact q _ _ h
 ·exact stp.keep b o h hb (bf! hn)
mutual
theorem Den.mono(stp:vD mg H Y H' Y' s'):∀{d:D}{v:V},fI!->rc! H' Y' d v
 | .non,_,h=>h | .bl _,_,h=>h | .int _,_,h=>h | .str _,_,h=>h | .tup ds,v,h=>by
  change ∃_,_;obtain⟨a,vs,e,h1,h2⟩:=h;exact⟨a,vs,e,stp.stay h1 (by intro vs z;cases z),yj.mono stp h2⟩ | .lst ds,v,h=>by
  change ∃_,_;obtain⟨a,o,vs,e,h1,h2⟩:=h;exact⟨a,o,vs,e,stp.stay h1 (by intro vs z;cases z),yj.mono stp h2⟩ | .dct,v,h=>by
  change ∃_,_;obtain⟨a,e,h1⟩:=h;exact⟨a,e,stp.stay h1 (by intro vs z;cases z)⟩ | .loc l,v,h=>by
  change ∃_,_;obtain⟨a,e,h1,k⟩:=h;obtain⟨t,ht⟩:=stp.pre;refine ck! a e ?_ ?_
  ·rw[<- ht,_I (cM! h1)];exact h1
  ·rcases stp.mt a (_w h1) with⟨_,q⟩ | ⟨q,_,_⟩;·exact q
   ·exact bZ! (k.notC q) | .dlo l,v,h=>by
  change ∃_,_;obtain⟨a,e,h1,k⟩:=h;obtain⟨t,ht⟩:=stp.pre;refine ck! a e ?_ ?_
  ·rw[<- ht,_I (cM! h1)];exact h1
  ·rcases stp.mt a (_w h1) with⟨q,_⟩ | ⟨_,q,_⟩;·exact bZ! (q.notC k)
   ·exact q | .fn _,_,h=>h | .exc x,v,h=>by
  change ∃_,_;obtain⟨a,C,e,h1,h2⟩:=h;exact⟨a,C,e,h1,stp.stay h2 (by intro vs z;cases z)⟩ | .scr ds,v,h=>by
  change ∃_,_;obtain⟨a,vs,e,h1,h2⟩:=h;exact⟨a,vs,e,h1.imp (λ⟨o,h1⟩=>⟨o,stp.stay h1 (by intro vs z;cases z)⟩) id,yj.mono stp h2⟩
theorem yj.mono(stp:vD mg H Y H' Y' s'):rW! ja! (fZ! H' Y' ds vs)
 | [],_,h=>h | d::ds,vs,h=>by
  change ∃_,_;obtain⟨v,r,e,h1,h2⟩:=h;exact⟨v,r,e,Den.mono stp h1,yj.mono stp h2⟩
end
theorem yj.length:rW! ja! (dy!=qs!)
 | [],_,h=>by rw[h];rfl | d::ds,vs,h=>by
  obtain⟨v,r,rfl,_,h2⟩:=h;simp[yj.length h2]
theorem yj.get:∀{ds:List D}{vs:List V}{i:Nat}{d:D},ja!->aj! ds d->∃v,aj! vs v/\fI!
 | [],_,_,_,_,e=>by cases e | d::ds,vs,0,d',h,e=>by
  obtain⟨v,r,rfl,h1,_⟩:=h;simp at e;subst e;exact⟨v,by rfl,h1⟩ | d::ds,vs,i+1,d',h,e=>by
  obtain⟨v,r,rfl,_,h2⟩:=h;obtain⟨u,h3,h4⟩:=yj.get h2 (by exact e);exact⟨u,by exact h3,h4⟩
theorem yj.append:∀{ds es:List D}{vs us:List V},ja!->fZ! H Y es us->fZ! H Y (ds++es) (vs++us)
 | [],_,_,_,h,h'=>by subst h;exact h' | d::ds,_,_,_,h,h'=>by
  obtain⟨v,r,rfl,h1,h2⟩:=h;exact gR! v _ h1 (yj.append h2 h')
theorem yj.nil:fZ! H Y [] []:=by rfl
theorem yj.cons{d:D} {ds:v!} {v:V} {vs:aG!} (h:fI!) (h':ja!):fZ! H Y (d::ds) (v::vs):=gR! v vs h h'
theorem yj.one(h:fI!):fZ! H Y [d] [v]:=eI! h cu!
theorem yj.take:∀{ds:List D}{vs:List V}(n:Nat),ja!->fZ! H Y (ds.take n) (vs.take n)
 | ds,vs,0,h=>by rfl | [],vs,n+1,h=>by subst h;rfl | d::ds,vs,n+1,h=>by
  obtain⟨v,r,rfl,h1,h2⟩:=h;exact eI! h1 (yj.take n h2)
theorem yj.drop:∀{ds:List D}{vs:List V}(n:Nat),ja!->fZ! H Y (ds.drop n) (vs.drop n)
 | ds,vs,0,h=>by exact h | [],vs,n+1,h=>by subst h;rfl | d::ds,vs,n+1,h=>by
  obtain⟨v,r,rfl,h1,h2⟩:=h;exact yj.drop n h2
theorem yj.set:∀{ds:List D}{vs:List V}{d:D}{v:V}(n:Nat),ja!->fI!->fZ! H Y (ds.set n d) (vs.set n v)
 | [],vs,_,_,n,h,_=>by subst h;rfl | d::ds,vs,_,_,0,h,h'=>by
  obtain⟨v,r,rfl,h1,h2⟩:=h;exact pc! h' h2 | d::ds,vs,_,_,n+1,h,h'=>by
  obtain⟨v,r,rfl,h1,h2⟩:=h;exact pc! h1 (yj.set n h2 h')
mutual
theorem Den.flatten(k:bG! (cR! o->(∀vs,o≠cp!)->(∀ah,o≠lf!)->(∀ah,a3! ah->o≠gW!)->H' b=b! o)):∀{d:D}{v:V},mJ!->fI!->rc! H' Y' d v
 | .non,_,_,h=>h | .bl _,_,_,h=>h | .int _,_,_,h=>h | .str _,_,_,h=>h | .tup ds,v,f,h=>by
  change ∃_,_;obtain⟨a,vs,e,h1,h2⟩:=h;exact⟨a,vs,e,k a _ h1 (by intro vs z;cases z) (by intro vs z;cases z) (by intro vs g z;cases z<;>exact g rfl),yj.flatten k f h2⟩ | .lst ds,v,f,h=>by
  change ∃_,_;obtain⟨a,o,vs,e,h1,h2⟩:=h;exact⟨a,o,vs,e,k a _ h1 (by intro vs z;cases z) (by intro vs z;cases z) (by intro vs g z;cases z<;>exact g rfl),yj.flatten k f h2⟩ | .dct,v,_,h=>by
  change ∃_,_;obtain⟨a,e,h1⟩:=h;exact⟨a,e,k a _ h1 (by intro vs z;cases z) (by intro vs z;cases z) (by intro vs g z;cases z<;>exact g rfl)⟩ | .loc l,v,f,h=>nomatch (f:r!=c!) | .dlo l,v,f,h=>nomatch (f:r!=c!) | .fn _,_,_,h=>h | .exc x,v,_,h=>by
  change ∃_,_;obtain⟨a,C,e,h1,h2⟩:=h;exact⟨a,C,e,h1,k a _ h2 (by intro vs z;cases z) (by intro vs z;cases z) (by intro vs g z;cases z<;>exact g rfl)⟩ | .scr ds,v,f,h=>by
  change ∃_,_;obtain⟨a,vs,e,h1,h2⟩:=h;exact⟨a,vs,e,h1.imp (λ⟨o,h1⟩=>⟨o,k a _ h1 (by intro vs z;cases z) (by intro vs z;cases z) (by intro vs g z;cases z<;>exact g rfl)⟩) id,yj.flatten k f h2⟩
theorem yj.flatten(k:bG! (cR! o->(∀vs,o≠cp!)->(∀ah,o≠lf!)->(∀ah,a3! ah->o≠gW!)->H' b=b! o)):rW! (da! ds) (ja!->fZ! H' Y' ds vs)
 | [],_,_,h=>h | d::ds,vs,f,h=>by
  change ∃_,_;simp only[flC,flN,_R]at f;obtain⟨v,r,e,h1,h2⟩:=h;exact⟨v,r,e,Den.flatten k f.1 h1,yj.flatten k f.2 h2⟩
end
end
def okR{α β:bL!}(mg:Gm)(E:XK)(H:Hp)(Y:an!)(Dn:Hp->an!->α->β->g!)(r:R α)(Q:β->bQ!):g!:=match r with
 | .ok a s'=>∀b H' Y',vD mg H Y H' Y' s'->Dn H' Y' a b->Q b H' | .ex c s'=>∀H' Y' C,vD mg H Y H' Y' s'->mg.m c=b! ap!->E ap! a! H' | .no=>False
section
variable {α β α2 β2:bL!}{mg:Gm}{E:XK}{H H' H1 H2:Hp}{Y Y' Y1 Y2:an!}{s s' s1 s2:Sto}{Dn:Hp->an!->α->β->g!}{Dn2:Hp->an!->α2->β2->g!}
theorem okR.rebase(h:eF! E H Y Dn r Q)(stp:vD mg H Y H1 Y1 s1):eF! E H1 Y1 Dn r Q:=by cases r with
 | ok a s'=>exact λb H' Y' cj=>h b H' Y' (stp.trans cj) | ex c s'=>exact λH' Y' C cj=>h H' Y' C (stp.trans cj) | no=>exact h
inductive OkB(mg:Gm)(E:XK)(H:Hp)(Y:an!)(Dn:Hp->an!->α->β->g!)(Dn2:Hp->an!->α2->β2->g!)(k:α->el! α2)(Q:β2->bQ!)(b:β)(H1:Hp):g! | mk (Y1:an!)(s1:Sto)(a:α)(stp:vD mg H Y H1 Y1 s1)(dn:Dn H1 Y1 a b)(h:eF! E H1 Y1 Dn2 (k a s1) Q)
theorem okR.bind(h:eF! E H Y Dn2 (r.bind k) Q): eF! E H Y Dn r (OkB mg E H Y Dn Dn2 k Q):=by cases r with
 | ok a s'=>exact λb H' Y' stp dn=>⟨Y',s',a,stp,dn,okR.rebase h stp⟩ | ex c s'=>exact h | no=>exact h
theorem okR.imp(h:eF! E H Y Dn r Q)(i:∀b H',Q b H'->Q' b H'):eF! E H Y Dn r Q':=by cases r with
 | ok a s'=>exact λb H' Y' stp dn=>i b H' (h b H' Y' stp dn) | ex c s'=>exact h | no=>exact h
theorem okR.here(h:eF! E H Y Dn (j! a) Q)(r:d7!)(d:Dn H Y a b):Q b H:=h b H Y (.refl r) d
end
structure z1S(mg:Gm)(H:Hp)(Y:an!)(ρ:Ev)(O:L2.St):g! where
 len:qt!=p4!
 at_:∀(i:Nat)(d:D),aj! ρ k!->∃v,aj! O bP!/\fI!
theorem z1S.mono(e:hC! H Y O)(stp:vD mg H Y H' Y' s'):hC! H' Y' O:= ⟨e.len,λi d h=>let ⟨v,h1,h2⟩:=e.at_ i d h;⟨v,h1,h2.mono stp⟩⟩
theorem z1S.set(e:hC! H Y O)(h:fI!)(i:Nat):z1S mg H Y (i1! k!) (kV! i):=by
 refine⟨by simp[e.len],λj d' hj=>?_⟩;by_cases aJ:i=j
 ·subst aJ;have hi:i<qt!:=by simpa using (cM! hj)
  rw[_ah hi]at hj;cases hj;exact⟨v,by rw[_ah (by rw[<- e.len];exact hi)],h⟩
 ·rw[_ab aJ]at hj ⊢;exact e.at_ j d' hj
abbrev FE:=Ev->bl!
abbrev FT:=Ev->el! cb!
abbrev FA:=Ev->el! v!
inductive Fl where | nx (ρ:Ev) | rt (d:D) | bk (ρ:Ev) | ct (ρ:Ev)
inductive FlV where | nx (O:L2.St) | rt (v:V) | bk (O:L2.St) | ct (O:L2.St)
abbrev FS:=Ev->el! Fl
def FlD(mg:Gm)(H:Hp)(Y:an!):Fl->FlV->g!
 | .nx ρ,.nx O=>hC! H Y O | .rt d,.rt v=>fI! | .bk ρ,.bk O=>hC! H Y O | .ct ρ,.ct O=>hC! H Y O | _,_=>False
def zik(D:zlg):FlV->bQ!
 | .nx O,H=>D.nx O H | .rt v,H=>D.rt v H | .bk O,H=>D.bk O H | .ct O,H=>D.ct O H
def bD(_:Hp)(_:an!)(a b:Bool):g!:=a=b
inductive Wst{α β:bL!}(mg:Gm)(E:XK)(H:Hp)(O:L2.St)(Dn:Hp->an!->α->β->g!)(f:Ev->el! α)(Q:β->bQ!):g! | mk (Y:an!)(ρ:Ev)(s:Sto)(r:d7!)(en:hC! H Y O)(h:eF! E H Y Dn aM! Q)
def tE(mg:Gm)(E:XK)(f:FE):TE:=gI! (Wst mg E H O (Den mg) f Q)
def tT(mg:Gm)(E:XK)(f:FT):TT:=gI! (Wst mg E H O bD f Q)
def tA(mg:Gm)(E:XK)(f:FA):TA:=gI! (Wst mg E H O (yj mg) f Q)
def tS(mg:Gm)(E:XK)(f:FS):TS:=lq! (Wst mg E H O (FlD mg) f (zik D))
def RE(X:Cx)(E:XK)(e:Expr)(f:FE):g!:=S! e (tE J! E f)
def RT(X:Cx)(E:XK)(e:Expr)(f:FT):g!:=PT X e (tT J! E f)
def RA(X:Cx)(E:XK)(es:aE!)(f:FA):g!:=PA X es (tA J! E f)
def RS(X:Cx)(E:XK)(st:Stmt)(f:FS):g!:=PS X st (tS J! E f)
def RSs(X:Cx)(E:XK)(st:nt!)(f:FS):g!:=PSs X st (tS J! E f)
section
variable {X:Cx}{E:XK}{e a b c:Expr}{es:aE!}{pos:Pos}
theorem yk(h:S! e t)(i:∀O H Q,t' O H Q->t O H Q):S! e t':=λae s O H Q I q=>h ae s O H Q I (i O H Q q)
theorem zhH(h:PT X e t)(i:∀O H Q,t' O H Q->t O H Q):PT X e t':=λae s O H Q I q=>h ae s O H Q I (i O H Q q)
theorem zkU(h:PA X es t)(i:∀O H Q,t' O H Q->t O H Q):PA X es t':=λpos ae s O H Q I q=>h pos ae s O H Q I (i O H Q q)
theorem kM{st:Stmt} (h:PS X st t)(i:∀D O H,t' D O H->t D O H):PS X st t':=λae s O H D I q=>h ae s O H D I (i D O H q)
theorem zha{st:nt!} (h:PSs X st t)(i:∀D O H,t' D O H->t D O H):PSs X st t':=λae s O H D I q=>h ae s O H D I (i D O H q)
theorem yJ{k:Ev->D->el! α} {Q:β->bQ!} (r:d7!)(en:hC! H Y O) (h:eF! E H Y Dn (kc! (k ρ)) Q)(K:V->bQ!) (hK:∀v H1 Y1 s1 d,Rep mg H1 Y1 s1->hC! H1 Y1 O->rc! H1 Y1 d v->vD mg H Y H1 Y1 s1->eF! E H1 Y1 Dn (k ρ d s1) Q->K v H1):tE mg E f O H K:= ⟨Y,ρ,s,r,en,dc! h (λv H1 ⟨Y1,s1,d,stp,dn,q⟩=>hK v H1 Y1 s1 d dz! im! dn stp q)⟩
theorem z6q{k:Ev->cb!->el! α} {Q:β->bQ!} (r:d7!)(en:hC! H Y O) (h:eF! E H Y Dn (kc! (k ρ)) Q)(K:cb!->bQ!) (hK:∀v H1 Y1 s1,Rep mg H1 Y1 s1->hC! H1 Y1 O->vD mg H Y H1 Y1 s1->eF! E H1 Y1 Dn (k ρ v s1) Q->K v H1):tT mg E f O H K:= ⟨Y,ρ,s,r,en,dc! h (λv H1 ⟨Y1,s1,d,stp,dn,q⟩=>hK v H1 Y1 s1 dz! im! stp (by cases (dn);exact q))⟩
theorem qh{k:Ev->v!->el! α} {Q:β->bQ!} (r:d7!)(en:hC! H Y O) (h:eF! E H Y Dn (kc! (k ρ)) Q)(K:aG!->bQ!) (hK:∀v H1 Y1 s1 d,Rep mg H1 Y1 s1->hC! H1 Y1 O->fZ! H1 Y1 d v->vD mg H Y H1 Y1 s1->eF! E H1 Y1 Dn (k ρ d s1) Q->K v H1):tA mg E f O H K:= ⟨Y,ρ,s,r,en,dc! h (λv H1 ⟨Y1,s1,d,stp,dn,q⟩=>hK v H1 Y1 s1 d dz! im! dn stp q)⟩
noncomputable def zd(i:Nat):FE:=eO! (match ρ[i]? with | some (some d)=>j! d | _=>.no)
theorem zc(i:Nat) (hN:A! (gr! x))(hv:sy! x:=by first | exact bB! | exact Or.inr bB! | exact Or.inr bN!)(hd:ce! (x==cH!)) (bC:ce! (x==l! "__classdict__")):V! mS! (zd i):= yk (zl7 hN hv hd bC) λO H Q ⟨Y,ρ,s,r,en,h⟩=>by
  unfold zd at h;split at h
  ·rename_i d hd;obtain⟨v,h1,h2⟩:=en.at_ i d hd;exact⟨v,h1,eX! h2⟩
  ·exact h.elim
noncomputable def eC(d:D):FE:=λ_ s=>j! d
theorem zp: V! (lX! aa! pos) (T! i):=yk zlP λO H Q ⟨Y,ρ,s,r,en,h⟩=>hi! h (by rfl)
theorem z9X: V! (lX! (.bool i) pos) (eC (.bl i)):=yk zsS λO H Q ⟨Y,ρ,s,r,en,h⟩=>hi! h (by rfl)
theorem zk9: V! (lX! X! pos) (eC aJ!):=yk zpZ λO H Q ⟨Y,ρ,s,r,en,h⟩=>hi! h (by rfl)
theorem xD: V! (gN! i j pos) (bV! i):=yk zld λO H Q ⟨Y,ρ,s,r,en,h⟩=>hi! h (by rfl)
theorem zq1(hg:e7!)(hm:X.mg x=b! (b7! i))(hd:ce! (x==cH!)):V! mS! (T! i):= yk (z6J hg hm (show ww aa! (b7! i) from co! t) hd) λO H Q ⟨Y,ρ,s,r,en,h⟩=>hi! h (by rfl)
def OpF(X:Cx)(E:XK)(r:R2)(op:D->D->bl!):g!:= ∀H Y s d1 d2 v1 v2 (Q:VK),Rep J! H Y s->Den J! H Y d1 v1->Den J! H Y d2 v2->okR J! E H Y k3! (op d1 d2 s) Q->r v1 v2 H Q
noncomputable def eOp(op:D->D->bl!)(fa fb:FE):FE:=b0! (gA! s) (λx s1=>B! f4! (λy s2=>op x y s2))
theorem zeg(ho:cS! op) (h:tE J! E (eOp op fa fb) O H Q):tOp r (tE J! E fa) (tE J! E fb) O H Q:=by
 obtain⟨Y,ρ,s,r',en,h⟩:=h;exact yJ (k:=lx! (B! f4! (λy s2=>op x y s2))) r' en h _ λv H1 Y1 s1 d r1 av dn stp h1=>(yJ (k:=fun ρ y s2=>op d y s2) r1 av h1 _ λv2 H2 Y2 s2 d2 r2 aX ax mR h2=>(ho H2 Y2 s2 d d2 v v2 Q r2 (rC! mR) ax h2))
theorem zuX(ho:gv! op r/\cS! fo)(ha:f0! a)(hb:V! b fb):V! (.BinOp a op b pos) (eOp fo fa fb):= yk (zrg ho.1 ha hb) λO H Q h=>zeg ho.2 h
theorem zri(ho:dP! op r/\cS! fo)(ha:f0! a)(hb:V! b fb)(hm:pL! b=r!):V! (.Compare a [op] [b] pos) (eOp fo fa fb):= yk (zhy ho.1 ha hb hm) λO H Q h=>zeg ho.2 h
end
end Dd
namespace L2
theorem Inv.freeze{O:L2.St} (I:K!)(h:ci! u)(e:dm! a)(hu:∀xs,u≠ah!)(hf:∀o v,u≠d2! v)(ht:∀ps,u≠.tbl ps)(ho:∀y,u≠.own y): cI! (g4! (d2! u)) s:=by
 have ne:∀{b:Addr}{v:HO},cR! v->v≠u->b≠a:=λ{b v} hb hv z=>by subst z;rw[h]at hb;exact hv (_p hb).symm
 have stay:∀b v,jA aT! X.w H F! b v->jA aT! X.w (g4! (d2! u)) F! b v:=λb v q=> q.stay (λ_ _ _ q=>q) (λc q=>by rw[zJ (ne q (λz=>ho b js!))];exact q) λc xs q=>by rw[zJ (ne q (λz=>hu xs js!))];exact q
 exact I.step (ch:=[]) (cl! (bS! hb (by simp))) (λb o _ _ _ e _=>e) (λb o _ _ _ e _=>gT! o.slots) (λb v _ _ n=>by rw[zJ (λz=>by subst z;rw[h]at n;cases n)];exact n) (λb o _ e=>gT! o) (λb xs q=>by rw[zJ (ne q (λz=>hu xs js!))];exact q) (λb o' v q=>by rw[zJ (ne q (λz=>hf o' v js!))];exact q) (λb ps q=>⟨#[],by rw[zJ (ne q (λz=>ht ps js!)),q];rfl⟩) (λ_ q=>q) (λb v q=>by
  by_cases hb:b=a
  ·subst hb;rw[yu]at q;cases q;exact⟨e,stay b u (nU! b u h)⟩
  ·rw[zJ hb]at q;exact stay b v (nU! b v q)) I.bare
def zjl(Q:VK):VK:=λv H=>∃a xs,v=ac!/\ci! cq!/\∀o,Q v (g4! (d2! cq!))
theorem EP.freeze(h:EP X ae O (zjl Q) u s):EP X ae O Q u s:=by
 obtain⟨v,H',I,r,a,xs,rfl,ha,q⟩:=h;obtain⟨af,n,rv,e,_⟩:=I.lst ha;exact⟨_,_,I.freeze ha e (by intro _ z;cases z) (by intro _ _ z;cases z) (by intro _ z;cases z) (by intro _ z;cases z),r,q _⟩
theorem OpR.freeze(h:OpR X f r):OpR X f (hI! (r x y H (zjl Q))):=λae s O H x y v u Q I rx ry q=>thn (h ae s O H x y v u _ I rx ry q) λ_ _ z=>z.freeze
theorem wa.freeze(h:wa X f r):wa X f (λxs H Q=>r xs H (zjl Q)):=λae s O H xs us Q I rs q=>thn (h ae s O H xs us _ I rs q) λ_ _ z=>z.freeze
theorem PE.freeze(h:S! e t):S! e (kZ! O H (zjl Q)):=λae s O H Q I q=>thn (h ae s O H _ I q) λ_ _ z=>z.freeze
theorem SlR.freeze(h:SlR X r):SlR X (ql! (r x lo hi H (zjl Q))):=λae s O H x v vl vu lo hi sl Q I rx hs pl pu q=>by
 obtain⟨T,id,h1,h2,h3⟩:=h ae s O H x v vl vu lo hi sl _ I rx hs pl pu q;exact⟨T,id,h1,h2,thn h3 λ_ _ z=>z.freeze⟩
section
variable {X:Cx}
theorem zlU:gv! .Add (hI! (∃l b xs zs,x=ez!/\y=w! b/\Rd H l cq!/\Rd H b (ad! zs)/\x!+zs.length<=aW!/\∀p,gB!->Q b6! (fL! (ad! (xs++zs))))):=by
 intro ae s O H x y v u Q I rx ry h;obtain⟨l,b,xs,zs,rfl,rfl,hH,hB,hz,q⟩:=h;cases rx;cases ry;obtain⟨z,af,n,r,e⟩:=hH.ok eL!;obtain⟨z2,cW,n2,r2,e2⟩:=hB.ok eL!;have hl:=r.length;have ge:=r2.length;refine PySem.P.add_list e e2 ?_ (by rw[_s,_s];lia);rw[(show fs!++cW.toArray=nb! (af++cW) from by simp)];exact⟨w! _,_,I.lnew (r.append r2) (by rw[_ar];lia),rfl,q _ I.fresh⟩
end
section
variable {X:Cx}
theorem zjP:gv! .Add (hI! (∃a b ys,x=ac!/\y=w! b/\eG! X.K a []/\eG! X.K b ys/\Q (w! b) H)):=by
 intro ae s O H x y v u Q I rx ry h;obtain⟨a,b,ys,rfl,rfl,ha,hb,q⟩:=h;cases rx;cases ry;obtain⟨af,r1,p1,_⟩:=lp! ha;obtain⟨cW,r2,p2,_⟩:=lp! hb;cases r1;obtain⟨⟨cls,dd,data,sl⟩,ho,hc,n,hd⟩:=id p1;obtain⟨⟨gJ,fX,data2,cG⟩,dE,gK,n2,eP⟩:=id p2;subst hc hd gK eP;exact concat_meets (b5! ho) (b5! dE) _do seq_tuple_add _b1 _bW (_bP _ _) (tuple_addW0 a b _ _ n n2 dd fX sl cG (by rfl)) ⟨ho,dE,bn! (w! b) H I q⟩
theorem znS:SlR X (ql! (∃a xs,x=ac!/\eG! X.K a xs/\(ih! 0 lo=0/\ih! x! hi=x!)/\Q ac! H)):=by
 intro ae s O H x v vl vu lo hi sl Q I rx hs pl pu h;obtain⟨a,xs,rfl,hx,hw,q⟩:=h;cases rx;obtain⟨af,r,ht,hz⟩:=lp! hx;refine⟨cV!,_,_P.lookup,lu!,?_⟩;obtain⟨os,bZ,cV,cR⟩:=id hs;unfold getItem;try with_reducible refine _aT ?_
 refine _a (_c1 lu! (by decide) (_a (_af lu! _P (_aw _P lu! _cy ?_ (_cN _ _)))));show fG! _ _ (Builtin.Tuple.tupleItemsOf ac! >>= _) _ _;refine _a (tupleItemsOf_ ht (_a (_dG ⟨os,bZ,cV⟩ ?_)));refine _a (HT.kW hs pl pu ?_);rw[(show iL!=x! from by exact r.length.symm),hw.1,hw.2];show fG! _ _ (aF! (0==0&&1==1&&(x!-0)==x!) _ _) _ _;rw[_i (by simp)];exact _a (_a (_dG lu! (_m (_a (_cI (_m (aC! _ (_m (bn! ac! H I q)))))))))
end
end L2
namespace Dd
open L2
section
variable {mg:Gm}{H H' H1 H2:Hp}{Y Y' Y1 Y2:an!}{s s' s1 s2:Sto}
structure Kp(H H':Hp):g! where
 k:bG! (cR! o->(∀vs,o≠cp!)->(∀ah,o≠lf!)->(∀ah,a3! ah->o≠gW!)->H' b=b! o)
 l:∀a,IsL H a->IsL H' a
 c:∀a,IsC H a->IsC H' a
mutual
theorem Den.gen(k:Kp H H')(hi:∀(l:Nat) a,E! Y l a->E! Y' l a):∀{d:D}{v:V},fI!->rc! H' Y' d v
 | .non,_,h=>h | .bl _,_,h=>h | .int _,_,h=>h | .str _,_,h=>h | .tup ds,v,h=>by
  change ∃_,_;obtain⟨a,vs,e,h1,h2⟩:=h;exact⟨a,vs,e,k.k a _ h1 (by intro vs z;cases z) (by intro vs z;cases z) (by intro vs g z;cases z<;>exact g rfl),yj.gen k hi h2⟩ | .lst ds,v,h=>by
  change ∃_,_;obtain⟨a,o,vs,e,h1,h2⟩:=h;exact⟨a,o,vs,e,k.k a _ h1 (by intro vs z;cases z) (by intro vs z;cases z) (by intro vs g z;cases z<;>exact g rfl),yj.gen k hi h2⟩ | .dct,v,h=>by
  change ∃_,_;obtain⟨a,e,h1⟩:=h;exact⟨a,e,k.k a _ h1 (by intro vs z;cases z) (by intro vs z;cases z) (by intro vs g z;cases z<;>exact g rfl)⟩ | .loc l,v,h=>by
  change ∃_,_;obtain⟨a,e,h1,q⟩:=h;exact⟨a,e,hi l a h1,k.l a q⟩ | .dlo l,v,h=>by
  change ∃_,_;obtain⟨a,e,h1,q⟩:=h;exact⟨a,e,hi l a h1,k.c a q⟩ | .fn _,_,h=>h | .exc x,v,h=>by
  change ∃_,_;obtain⟨a,C,e,h1,h2⟩:=h;exact⟨a,C,e,h1,k.k a _ h2 (by intro vs z;cases z) (by intro vs z;cases z) (by intro vs g z;cases z<;>exact g rfl)⟩ | .scr ds,v,h=>by
  change ∃_,_;obtain⟨a,vs,e,h1,h2⟩:=h;exact⟨a,vs,e,h1.imp (λ⟨o,h1⟩=>⟨o,k.k a _ h1 (by intro vs z;cases z) (by intro vs z;cases z) (by intro vs g z;cases z<;>exact g rfl)⟩) id,yj.gen k hi h2⟩
theorem yj.gen(k:Kp H H')(hi:∀(l:Nat) a,E! Y l a->E! Y' l a):rW! ja! (fZ! H' Y' ds vs)
 | [],_,h=>h | d::ds,vs,h=>by
  change ∃_,_;obtain⟨v,r,e,h1,h2⟩:=h;exact⟨v,r,e,Den.gen k hi h1,yj.gen k hi h2⟩
end
theorem uI(hp:gB!):∀b u,cR! u->upd H p o b=b! u:=λb u h=>by rw[zJ (xo h hp)];exact h
theorem Kp.new(hp:gB!):Kp H (fL! o):=⟨λb u h _ _ _=>uI hp b u h,λa ⟨vs,e⟩=>⟨vs,uI hp a _ e⟩,λa h=>ng! (λ⟨vs,e⟩=>⟨vs,uI hp a _ e⟩) (λh=>ng! (λ⟨o,vs,e⟩=>cr! vs (uI hp a _ e)) (λh=>ng! (λ⟨vs,g,e⟩=>⟨vs,g,uI hp a _ e⟩) (λ⟨o,vs,e⟩=>cr! vs (uI hp a _ e))))⟩
theorem Kp.putL(h:IsL H a):Kp H (g4! cp!):=by
 obtain⟨ws,e⟩:=h;have ne:∀{b u},cR! u->(∀vs,u≠cp!)->b≠a:=λ{b u} q n z=>by subst z;rw[e]at q;exact n ws (_p q).symm
 refine⟨λb o q n1 n2 _=>by rw[zJ (ne q n1)];exact q,λb ⟨us,q⟩=>?_,λb h=>?_⟩
 ·by_cases z:b=a;·subst z;exact as! vs yu
  ·exact⟨us,by rw[zJ z];exact q⟩
 ·rcases h with⟨us,q⟩ | ⟨o,us,q⟩ | ⟨us,g,q⟩ | ⟨o,us,q⟩;·exact y! ⟨us,by rw[zJ (ne q (by intro _ z;cases z))];exact q⟩
  ·exact Q! (y! ⟨o,us,by rw[zJ (ne q (by intro _ z;cases z))];exact q⟩)
  ·exact in! (y! ⟨us,g,by rw[zJ (ne q (by intro _ z;cases z))];exact q⟩)
  ·exact Q! (in! ⟨o,us,by rw[zJ (ne q (by intro _ z;cases z))];exact q⟩)
theorem zfe.imp: ∀{xs:List D}{ah:List (Key×V)},(∀ys vs k,(gJ! [d! k,hW!]∈xs\/gJ! [d! k,hW!,aJ!]∈xs)->pP! ys->fZ! H' Y' ys vs)->(∀k b vs,(k,mM!)∈ah->cR! cp!->H' b=L! vs)->(∀b o vs,cR! (d2! cp!)->H' b=b! (d2! cp!))->zfe mg H Y xs ah->zfe mg H' Y' xs ah
 | [],_,_,_,_,h=>h | d::ds,ah,g,w,z,h=>by
  obtain⟨k,ys,b,vs,r,rfl,h1,h2,h3⟩:=h;refine⟨k,ys,b,vs,r,rfl,g ys vs k (h2.imp (λq=>by rw[q.1];simp) λq=>by rw[q.1];simp) h1,h2.imp (λq=>⟨q.1,w (o3! k) b vs (by simp) q.2⟩) (λq=>⟨q.1,q.2.imp λo e=>z b o vs e⟩),zfe.imp (λys vs k hm=>g ys vs k (hm.imp (λq=>by simp[q]) λq=>by simp[q])) (λk b vs hm=>w k b vs (by simp[hm])) z h3⟩
theorem zfe.fz: ∀{xs:List D}{ah:List (Key×V)}{k:Key}{b:Addr}{us:List V},zfe mg H Y xs ah->zpz xs->(k,mM!)∈ah->H b=L! us->m9!
 | [],_,k,b,us,h,f,hm,z=>by subst h;simp at hm | d::ds,ah,k,b,us,h,f,hm,z=>by
  obtain⟨k',ys,b',vs,r,rfl,h1,h2,h3⟩:=h;rcases eK! hm with e | hm
  ·cases e;rcases h2 with⟨q,_⟩ | ⟨_,o,q⟩
   ·obtain⟨k2,zs,e2⟩:=f d jP!;rw[e2]at q;simp at q
   ·rw[q]at z;cases z
  ·exact zfe.fz h3 (iM! (f d (.tail _ hd))) hm z
theorem zfe.at_: ∀{xs:List D}{ah:List (Key×V)}{k:Key}{b:Addr},zfe mg H Y xs ah->(k,mM!)∈ah->∃u,cR! u
 | [],_,k,b,h,hm=>by subst h;simp at hm | d::ds,ah,k,b,h,hm=>by
  obtain⟨k',ys,b',vs,r,rfl,h1,h2,h3⟩:=h;rcases eK! hm with e | hm
  ·cases e;rcases h2 with⟨_,q⟩ | ⟨_,o,q⟩<;>exact c0! q
  ·exact zfe.at_ h3 hm
theorem Rep.ownAt(r:d7!) (h:Own H Y b):∃u,cR! u:=by
 obtain⟨a,ha,ah,k,e,hm⟩:=h;obtain⟨l,hl,el⟩:=ge! ha;have eI:l<cm!:=by rw[<- r.len];exact hl
 obtain⟨b',e1,c⟩:=qr! l (s[l]) (_b eI);rw[_b hl]at e1;have := _p e1;subst this;rw[el]at c;rcases c with⟨_,z,_⟩ | ⟨_,z,_⟩ | ⟨_,_,_,z,_⟩ | ⟨bn,_,z,dk⟩ | ⟨_,_,_,z,_⟩<;>rw[e]at z<;>cases z;exact dk.at_ hm
def DkS(H:Hp)(Y:an!)(H':Hp)(Y':an!):g!:=∀a∈Y',∀ah,H' a=b! gW!->a∈Y/\ci! gW!
theorem DkS.own(d:DkS H Y H' Y') (h:Own H' Y' b):Own H Y b:=by
 obtain⟨a,ha,ah,k,e,hm⟩:=h;obtain⟨h1,h2⟩:=d a ha ah e;exact⟨a,h1,ah,k,h2,hm⟩
theorem DkS.uq(r:d7!)(d:DkS H Y H' Y'):∀a∈Y',∀a'∈Y',∀ah bn (i j:Nat) k k' b,H' a=b! gW!->H' a'=b! (.dK bn)->aj! ah (k,mM!)->E! bn j (k',mM!)->a=a'/\i=j:=λa ha a' gf ah bn i j k k' b e e'=> r.uq a (d a ha ah e).1 a' (d a' gf bn e').1 ah bn i j k k' b (d a ha ah e).2 (d a' gf bn e').2
theorem z9D(h:upd H p o b=a!):e8!:=by
 by_cases z:b=p;·subst z;rw[yu]at h;cases h
 ·rw[zJ z]at h;exact h
theorem jJ.gen(k:Kp H H')(hi:∀(l:Nat) a,E! Y l a->E! Y' l a)(e:H' a=H a)(ha:a∈Y)(ro:∀b,Own H Y b->b∉Y)(w:∀b vs,b∉Y->cR! cp!->H' b=L! vs)(h:jJ mg H Y xs a):jJ mg H' Y' xs a:=by
 rcases h with⟨vs,h1,h2⟩ | ⟨ah,h1,h2⟩ | ⟨o,ah,ys,h1,h2⟩ | ⟨ah,g,h1,h2⟩ | ⟨o,ah,ys,h1,e1,h2,f⟩;·exact y! ⟨vs,mB!,h2.gen k hi⟩
 ·exact Q! (y! ⟨ah,mB!,h2⟩)
 ·exact in! (y! ⟨o,ah,ys,mB!,h2⟩)
 ·exact Q! (in! (y! ⟨ah,g,mB!,h2.imp (λ_ _ _ _ q=>q.gen k hi) (λq b vs hm=>w b vs (ro b ⟨a,ha,ah,q,h1,hm⟩)) λb o vs q=>k.k b _ q (by intro vs z;cases z) (by intro vs z;cases z) (by intro vs g z;cases z)⟩))
 ·exact in! (in! ⟨o,ah,ys,mB!,e1,h2.imp (λ_ _ _ _ q=>q.gen k hi) (λq b vs hm z=>bZ! (h2.fz f.1 hm z)) λb o vs q=>k.k b _ q (by intro vs z;cases z) (by intro vs z;cases z) (by intro vs g z;cases z),f⟩)
theorem jJ.ne(h:jJ mg H Y xs a)(hp:gB!):a≠p:=by
 rintro rfl;rcases h.kind with⟨_,e⟩ | ⟨_,e⟩ | ⟨_,_,e⟩ | ⟨_,_,e⟩ | ⟨_,_,e⟩<;>rw[hp]at e<;>cases e
theorem Rep.notin(r:d7!)(hp:gB!):p∉Y:=λz=>by rcases r.mt p z with⟨_,e⟩ | ⟨_,e⟩ | ⟨_,_,e⟩ | ⟨_,_,e⟩ | ⟨_,_,e⟩<;>rw[hp]at e<;>cases e
theorem vD.lay(r:d7!)(hp:gB!)(ho:∀vs,o≠cp!):vD mg H Y (fL! o) Y s:= have d:DkS H Y (fL! o) Y:=λa ha ah e=>⟨ha,by rw[zJ (show a≠p from λz=>r.notin hp (z ▸ ha))]at e;exact e⟩;⟨⟨r.len,r.nd,λl xs h=>let ⟨a,h1,h2⟩:=qr! l xs h;⟨a,h1,h2.gen (.new hp) (λ_ _ q=>q) (zJ (h2.ne hp)) (_w h1) r.own (λb vs _ q=>uI hp b _ q)⟩,r.flat,λb h=>r.own b (d.own h),d.uq r⟩,_ds _,λb u h _ _=>uI hp b u h,λa h1 h2=>bS! h1 h2,λa ha=>(r.mt a ha).imp (λh=>⟨h,(Kp.new hp).l a h⟩) λh=>⟨h,(Kp.new hp).c a h,λ_ _ e=>uI hp a _ e⟩,λb h=>z9D h,λb h=>y! (d.own h)⟩
theorem vD.layC(r:d7!)(hp:gB!)(hc:jJ mg (fL! o) (Y++[p]) xs p)(hf:da! xs)(ho:∀ah,o≠gW!:=by intro _ z;cases z):vD mg H Y (fL! o) (Y++[p]) (s++[xs]):=by
 have d:DkS H Y (fL! o) (Y++[p]):=λa ha ah e=>by
  by_cases z:a=p;·subst z;rw[yu]at e;exact bS! (_p e) (ho ah)
  ·rw[zJ z]at e;exact gT! (mK! ha id (λq=>bS! (by simpa using q) z))
 have hi:∀(l:Nat) a,E! Y l a->E! (Y++[p]) l a:=λl a h=>by rw[_I (cM! h)];exact h
 refine⟨⟨by simp[r.len],?_,λl ys h=>?_,λys h=>?_,λb h=>?_,d.uq r⟩,List.prefix_append _ _,λb u h _ _=>uI hp b u h,λa h1 h2=>?_,λa ha=>(r.mt a ha).imp (λh=>⟨h,(Kp.new hp).l a h⟩) λh=>⟨h,(Kp.new hp).c a h,λ_ _ e=>uI hp a _ e⟩,λb h=>z9D h,λb h=>y! (d.own h)⟩
 ·rw[List.nodup_append];exact⟨r.nd,by simp,λa ha b hb=>by
   have:b=p:=by simpa using hb
   subst this;exact λz=>(r.notin hp) (z ▸ ha)⟩
 ·by_cases hl:l<cm!
  ·rw[_I hl]at h;obtain⟨a,h1,h2⟩:=qr! l ys h;exact⟨a,hi l a h1,h2.gen (.new hp) hi (zJ (h2.ne hp)) (_w h1) r.own (λb vs _ q=>uI hp b _ q)⟩
  ·have h0:l=cm!:=by
    have:=cM! h;simp at this;lia
   subst h0;simp at h;subst h;exact⟨p,by rw[<- r.len];simp,hc⟩
 ·rcases nX! h with h | h;·exact r.flat ys h
  ·rw[(show ys=xs from by simpa using h)];exact hf
 ·have q:=d.own h;obtain⟨u,hu⟩:=r.ownAt q;intro z;rcases nX! z with z | z;·exact r.own b q z
  ·rw[(show b=p from by simpa using z),hp]at hu;cases hu
 ·rcases nX! h1 with h | h;·exact bS! h h2
  ·rw[(show a=p from by simpa using h)];exact hp
theorem vD.layL(r:d7!)(hp:gB!)(hd:ht!)(hf:da! xs):vD mg H Y (fL! cp!) (Y++[p]) (s++[xs]):= vD.layC r hp (y! ⟨vs,yu,hd.gen (.new hp) λl a h=>by rw[_I (cM! h)];exact h⟩) hf
theorem vD.putC(r:d7!)(ha:E! Y l a)(k:Kp H (g4! o))(hc:jJ mg (g4! o) Y xs a)(hf:da! xs)(ho:∀ah,o≠gW!:=by intro _ z;cases z):vD mg H Y (g4! o) Y (s.set l xs):=by
 have d:DkS H Y (g4! o) Y:=λb hb ah e=>by
  by_cases z:b=a;·subst z;rw[yu]at e;exact bS! (_p e) (ho ah)
  ·rw[zJ z]at e;exact gT! hb
 have j9 := _w ha;refine⟨⟨by simp[r.len],r.nd,λj ys h=>?_,λys h=>?_,λb h=>r.own b (d.own h),d.uq r⟩,_ds _,λb u h hn _=>?_,λa h1 h2=>bS! h1 h2,cl! ((r.mt b hb).imp (λh=>⟨h,k.l b h⟩) λh=>⟨h,k.c b h,λ_ _ e=>k.k b _ e (by intro _ z;cases z) (by intro _ z;cases z) (by intro _ _ z;cases z)⟩),λb h=>z9D h,λb h=>y! (d.own h)⟩
 ·by_cases hj:l=j
  ·subst hj;rw[_ah (by rw[<- r.len];exact cM! ha)]at h;cases h;exact aV! a ha hc
  ·rw[_ab hj]at h;obtain⟨b,h1,h2⟩:=qr! j ys h;refine⟨b,h1,h2.gen k (λ_ _ q=>q) (zJ ?_) (_w h1) r.own (λc vs hc q=>by rw[zJ (show c≠a from λz=>hc (z ▸ j9))];exact q)⟩;rintro rfl;exact hj ((_a0 r.nd).mp (a4! (nY! ha).2 ((nY! h1).2).symm))
 ·rcases _B h with h | h;·exact r.flat ys h
  ·rw[h];exact hf
 ·rw[zJ (λz=>by subst z;exact hn j9)];exact h
theorem vD.put(r:d7!)(ha:E! Y l a)(ka:IsL H a)(hd:ht!)(hf:da! xs):vD mg H Y (g4! cp!) Y (s.set l xs):= vD.putC r ha (.putL ka) (y! ⟨vs,yu,hd.gen (.putL ka) λ_ _ q=>q⟩) hf
noncomputable def listOf(s:Sto):D->bm! v!
 | .lst xs=>b! xs | .loc l=>s[l]? | _=>none
noncomputable def zY(s:Sto):D->bm! v!
 | .tup xs=>b! xs | .lst xs=>b! xs | .scr xs=>b! xs | .loc l=>s[l]? | _=>none
inductive RdL(mg:Gm)(H:Hp)(Y:an!)(v:V)(xs:v!):g! | mk (a:Addr)(vs:aG!)(e:v=ac!)(h:Rd H a cp!)(dn:ht!)
inductive RdS(mg:Gm)(K:W.Frag)(H:Hp)(Y:an!)(v:V)(xs:v!):g! | mk (a:Addr)(vs:aG!)(e:v=ac!)(h:SqL K H a vs\/eG! K a vs)(dn:ht!)
inductive RdT(mg:Gm)(K:W.Frag)(H:Hp)(Y:an!)(v:V)(xs:v!):g! | mk (a:Addr)(vs:aG!)(e:v=ac!)(h:eG! K a vs)(dn:ht!)
theorem yn(r:d7!)(h:l4! d=b! xs)(dn:fI!):RdL mg H Y v xs:=by cases d with
 | lst ys=>
  simp only[listOf,_y]at h;subst h;obtain⟨a,o,vs,e,h1,h2⟩:=dn;exact⟨a,vs,e,ef! o h1,h2⟩ | loc l=>
  obtain⟨a,e,h1,k⟩:=dn;obtain⟨vs,h3,h4⟩:=r.at_ h h1 k;exact⟨a,vs,e,y! h3,h4⟩ | _=>simp[listOf]at h
theorem zlj(dn:km! (.scr xs) v):∃a vs,v=ac!/\SqL nf! H a vs/\ht!:=by
 obtain⟨a,vs,e,h1,h2⟩:=dn;exact⟨a,vs,e,h1.elim (λ⟨o,h⟩=>y! (ef! o h)) .inr,h2⟩
theorem qW{K:W.Frag} (r:d7!)(h:zY s d=b! xs)(dn:fI!)(hK:A! (nf!=K)):RdS mg K H Y v xs:=by cases d with
 | tup ys=>
  simp only[zY,_y]at h;subst h;obtain⟨a,vs,e,h1,h2⟩:=dn;exact⟨a,vs,e,Q! (y! (y! h1)),h2⟩ | lst ys=>
  obtain⟨a,vs,e,h1,h2⟩:=yn (d:=hW!) r h dn;exact⟨a,vs,e,y! (y! h1),h2⟩ | scr ys=>
  simp only[zY,_y]at h;subst h;subst hK;obtain⟨a,vs,e,h1,h2⟩:=zlj dn;exact⟨a,vs,e,y! h1,h2⟩ | loc l=>
  obtain⟨a,vs,e,h1,h2⟩:=yn (d:=dK!) r h dn;exact⟨a,vs,e,y! (y! h1),h2⟩ | _=>simp[zY]at h
theorem kZ{K:W.Frag} (dn:km! ah! v):RdT mg K H Y v xs:=by
 obtain⟨a,vs,e,h1,h2⟩:=dn;exact⟨a,vs,e,y! (y! h1),h2⟩
end
noncomputable def cap:Nat:=100000
theorem kO(h:n<=cap):n<=aW!:=_H h (by decide)
theorem zqG(h:n<cap):n<aW!:=_j h (by decide)
noncomputable def BIG:Nat:=2 ^ 4096
noncomputable def zm9(x y:D)(s:Sto):R D:=match l4! x,l4! y with
 | some a,some b=>ab! (a.length+n9!<=cap) (bt! (a++b)) | _,_=>.no
def yW:D->D->bl!
 | .int i,.int j,s=>t! (i+j) | .tup a,.tup b,s=>ab! (a.length+n9!<=cap) (bc! (a++b)) | x,y,s=>zm9 x y s
section
variable {X:Cx}{E:XK}
theorem yp(h:km! aa! v):v=aa!:=h
theorem kS(h:km! (.bl i) v):v=.bl i:=h
theorem z08(h:km! (aI! i) v):v=aI! i:=h
theorem yA: km! aa! aa!:=rfl
theorem wv: km! (.bl i) (.bl i):=rfl
theorem z06{Q:VK}(r:d7!)(h:eF! E H Y (Den mg) (j! cq!) Q)(hd:ht!):∀p,gB!->zjl Q b6! (fL! cp!):=bq! (by
 refine gR! p vs yu (λo=>?_);rw[zml];have stp:=vD.lay (o:=d2! cp!) r hp (by intro _ z;cases z);exact h _ _ _ stp ⟨p,o,vs,rfl,yu,hd.mono stp⟩)
theorem z45{Q:VK}(r:d7!)(h:eF! E H Y (Den mg) (j! ah!) Q)(hd:ht!):∀p,gB!->Q b6! (fL! (p! vs)):=bq! (by
 have stp:=vD.lay (o:=p! vs) r hp (by intro _ z;cases z);exact h _ _ _ stp (gR! p vs yu (hd.mono stp)))
theorem zcS{Q:VK}(r:Rep J! H Y s)(h1:Den J! H Y d1 v1)(h2:Den J! H Y d2 v2)(h:okR J! E H Y k3! (zm9 d1 d2 s) Q):∃l b xs zs,v1=V.ref l/\v2=mM!/\Rd H l cq!/\Rd H b (ad! zs)/\x!+zs.length<=aW!/\∀p,gB!->zjl Q b6! (fL! (ad! (xs++zs))):=by
 unfold zm9 at h;cases ha:l4! d1 with
 | none=>rw[ha]at h;exact bZ! (h:m9!) | some a=>
  rw[ha]at h;cases hb:l4! d2 with
  | none=>rw[hb]at h;exact bZ! (h:m9!) | some b=>
   rw[hb]at h;obtain⟨l,vs,e,q1,q2⟩:=yn r ha h1;obtain⟨l',fj,e',gi,d8⟩:=yn r hb h2;have h:okR J! E H Y k3! (ab! (a.length+n9!<=cap) (bt! (a++b))) Q:=h;split at h
   ·rename_i hl;exact⟨l,l',vs,fj,e,e',q1,gi,by rw[q2.length,d8.length];exact kO hl,z06 r h (q2.append d8)⟩
   ·exact h.elim
theorem yG:∃r,gv! .Add r/\cS! yW:=by
 refine bM! (zpC.or ((zjP).or ((zmA).or (zlU.freeze)))) ?_;intro H Y s d1 d2 v1 v2 Q r h1 h2 h;cases d1 with
 | int i=>cases d2 with
  | int j=>
   cases yp h1;cases yp h2;exact y! (bn! i j rfl (hi! h yA)) | _=>exact Q! (in! (zcS r h1 h2 h))
 | tup a=>cases d2 with
  | tup b=>
   obtain⟨l,vs,rfl,q1,q2⟩:=kZ h1;obtain⟨l',fj,rfl,gi,d8⟩:=kZ h2;have h:okR J! E H Y k3! (ab! (a.length+n9!<=cap) (bc! (a++b))) Q:=h;split at h
   ·rename_i hl;cases a with
    | nil=>
     subst q2;exact Q! (y! ⟨l,l',fj,rfl,rfl,q1,gi,eX! h2⟩) | cons x a=>
     refine in! (y! ⟨l,l',vs,fj,rfl,rfl,q1,gi,(λz=>by have:=q2.length;rw[z]at this;simp at this),by rw[q2.length,d8.length];exact kO hl,λz=>?_,λz=>z45 r h (q2.append d8)⟩);have eb:b=[]:=by
      have:=d8.length;rw[z]at this;exact _aX.mp this.symm
     subst eb;rw[_aK]at h;exact eX! h1
   ·exact h.elim | _=>exact Q! (in! (zcS r h1 h2 h))
 | _=>exact Q! (in! (zcS r h1 h2 h))
end
noncomputable def dII(g:Int->Int->R D):D->D->bl!
 | .int i,.int j,s=>match g i j with | .ok d _=>j! d | _=>.no
 | _,_,_=>.no
noncomputable def iOk(d:D):R D:=.ok d []
noncomputable def z7r:D->D->bl!:=l3! (iOk (d! (i-j)))
noncomputable def yS:D->D->bl!:=l3! (ab! (hJ!<BIG/\jX!<BIG) (iOk (d! (i*j))))
noncomputable def z9l:D->D->bl!:=l3! (ab! (0<j/\jX!<BIG) (iOk (d! (i / j))))
noncomputable def zdO:D->D->bl!:=l3! (ab! (0<j) (iOk (d! (i % j))))
noncomputable def zbW:D->D->bl!:=l3! (ab! (0<=j/\dv! j/\hJ!<ft!) (iOk (d! (i ^ kB!))))
noncomputable def dLt:D->D->bl!:=l3! (iOk (.bl (ey! i j)))
noncomputable def dLe:D->D->bl!:=l3! (iOk (.bl (jd! i j)))
noncomputable def dGt:D->D->bl!:=l3! (iOk (.bl (ey! j i)))
noncomputable def dGe:D->D->bl!:=l3! (iOk (.bl (jd! j i)))
section
variable {X:Cx}{E:XK}
theorem z0K(h:∀i j d t H Q,g i j=.ok d t->(∀v,(∀H Y,Den J! H Y d v)->Q v H)->r aa! (d! j) H Q):cS! (dII g):=by
 intro H Y s d1 d2 v1 v2 Q rp h1 h2 hq;unfold dII at hq;split at hq
 ·rename_i i j;cases yp h1;cases yp h2;split at hq
  ·rename_i d t e;exact h i j d t H Q e λv hv=>hq.here rp (hv H Y)
  ·exact hq.elim
 ·exact hq.elim
theorem z6C:∃r,gv! .Sub r/\cS! z7r:=bM! zoD (lM! (by
 simp only[iOk,R.ok.injEq]at e;exact bn! i j rfl (q _ (by intro H Y;rw[<- e.1];exact yA))))
theorem ze0(h:hJ!<BIG):Builtin.Int.intBits i<=2 ^ 20:=by
 have q := (PySem.intBits_le_iff ).mpr h;lia
theorem znH:ny! (rI (λi j=>hJ!<BIG/\jX!<BIG) (mF! (i*j))):=opI λ_ _ _ _ _ _ _ hc q=>mul_int q (IntMulOk.of_bits (ze0 hc.1) (ze0 hc.2))
theorem uy:∃r,ny! r/\cS! yS:=bM! znH (lM! (by
 split at e
 ·rename_i hc;simp only[iOk,R.ok.injEq]at e;exact⟨i,j,rfl,rfl,hc,q _ (by intro H Y;rw[<- e.1];exact yA)⟩
 ·cases e))
theorem zgj{j:Int}(h:jX!<BIG):j.natAbs.log2<9000:=by
 by_cases h0:jX!=0;·rw[h0];decide +kernel
 ·have := (Nat.log2_lt h0).mpr h;lia
theorem zk3:gv! .FloorDiv (rI (λ_ j=>0<j/\jX!<BIG) (mF! (i / j))):=opI λi j _ _ _ _ _ hc q=>by
 refine floordiv_int (by lia) ?_ (y! (_bR (zgj hc.2)));rw[_bz _ (by lia)];exact q
theorem zhl:∃r,gv! .FloorDiv r/\cS! z9l:=bM! zk3 (lM! (by
 split at e
 ·rename_i hc;simp only[iOk,R.ok.injEq]at e;exact⟨i,j,rfl,rfl,hc,q _ (by intro H Y;rw[<- e.1];exact yA)⟩
 ·cases e))
theorem zcu:∃r,gv! .Mod r/\cS! zdO:=bM! zoQ (lM! (by
 split at e
 ·rename_i hc;simp only[iOk,R.ok.injEq]at e;exact⟨i,j,rfl,rfl,hc,q _ (by intro H Y;rw[<- e.1];exact yA)⟩
 ·cases e))
theorem zeU:∃r,gv! .Pow r/\cS! zbW:=bM! zql (lM! (by
 split at e
 ·rename_i hc;simp only[iOk,R.ok.injEq]at e;exact⟨i,j,rfl,rfl,⟨hc.1,by lia,by lia⟩,q _ (by intro H Y;rw[<- e.1];exact yA)⟩
 ·cases e))
theorem zuu:∃r,dP! .Lt r/\cS! dLt:=bM! ztj (lM! (by
 simp only[iOk,R.ok.injEq]at e;exact bn! i j rfl (q _ (by intro H Y;rw[<- e.1];exact wv))))
theorem zu0:∃r,dP! .LtE r/\cS! dLe:=bM! zrj (lM! (by
 simp only[iOk,R.ok.injEq]at e;exact bn! i j rfl (q _ (by intro H Y;rw[<- e.1];exact wv))))
theorem zoj:∃r,dP! .Gt r/\cS! dGt:=bM! zsf (lM! (by
 simp only[iOk,R.ok.injEq]at e;exact bn! i j rfl (q _ (by intro H Y;rw[<- e.1];exact wv))))
theorem ztl:∃r,dP! .GtE r/\cS! dGe:=bM! zsA (lM! (by
 simp only[iOk,R.ok.injEq]at e;exact bn! i j rfl (q _ (by intro H Y;rw[<- e.1];exact wv))))
end
mutual
noncomputable def z90:D->PyData
 | .non=>X! | .bl b=>k7! | .int i=>aa! | .str x=>aY! | .tup xs=>.tuple oU! | .lst xs=>.list oU! | _=>lw! []
noncomputable def toPys:v!->d9! PyData
 | []=>[] | d::ds=>z90 d::toPys ds
end
theorem zuU(i:Int):z90 aa!=aa!:=U!
theorem zuK(x:Str):z90 aY!=aY!:=U!
theorem zq0(xs:v!):z90 ah!=.tuple oU!:=U!
theorem tPn:toPys []=[]:=U!
theorem tPc(d:D)(ds:v!):toPys (d::ds)=z90 d::toPys ds:=U!
theorem zpW(xs:v!):z90 cq!=.list oU!:=U!
noncomputable def eqD(a b:D):Bool:=PyData.eqv (z90 a) (z90 b)
noncomputable def zio(d:D):Bool:=SeqAt.shaped (z90 d)
noncomputable def dEq(x y:D)(s:Sto):R D:=ab! (zio x=c!/\zio y=c!) (bz! (eqD x y))
noncomputable def dNe(x y:D)(s:Sto):R D:=ab! (zio x=c!/\zio y=c!) (bz! (! eqD x y))
section
variable {P:Program}{w:World}{mg:Gm}{H:Hp}{Y:an!}{h:Heap}
mutual
theorem Den.reads(ok:HOk P w H h):∀{d:D}{v:V}{u:Value},lP! (z90 d)->fI!->ww v u->∃as,Reads h u (z90 d) as
 | d,v,u,c,dn,r=>by cases d with
  | non=>obtain rfl:=dn;cases r;exact c0! Reads.none | bl b=>obtain rfl:=dn;cases r;exact c0! (Reads.bool b) | int i=>obtain rfl:=dn;obtain⟨t,rfl⟩:=r;exact c0! (Reads.int i t) | str x=>obtain rfl:=dn;obtain⟨t,rfl⟩:=r;exact c0! (Reads.str x t) | tup ds=>
   obtain⟨a,vs,rfl,h1,h2⟩:=dn;cases r;obtain⟨_,af,rv,o,e,hc,_,n,hd⟩:=ok a _ h1;obtain⟨as,q⟩:=yj.reads ok c h2 rv;exact⟨as,Reads.tuple e hc hd (by simpa using q)⟩ | lst ds=>
   obtain⟨a,o,vs,rfl,h1,h2⟩:=dn;cases r;obtain⟨_,_,af,n,rv,e⟩:=ok a _ h1;obtain⟨as,q⟩:=yj.reads ok c h2 rv;exact c0! (Reads.list e rfl rfl (by simpa using q)) | _=>exact nomatch (c:r!=c!)
theorem yj.reads(ok:HOk P w H h):∀{ds:List D}{vs:List V}{us:List Value},PyData.canLayAll0 (toPys ds)=c!->ja!->kl! vs->∃as,ReadsAll h us (toPys ds) as
 | [],_,_,_,dn,r=>by obtain rfl:=dn;cases r;exact c0! ReadsAll.nil | d::ds,_,_,c,dn,r=>by
  obtain⟨v,vs,rfl,h1,h2⟩:=dn;have c:=ne! c;cases r with | cons r1 r2=>
   obtain⟨as,q⟩:=Den.reads ok c.1 h1 r1;obtain⟨bs,q'⟩:=yj.reads ok c.2 h2 r2;exact c0! (ReadsAll.cons q q')
end
end
section
variable {X:Cx}{E:XK}
def zuk(mg:Gm)(cb:Bool):R2:=hI! (∃Y d1 d2,km! d1 x/\km! d2 y/\zio d1=c!/\zio d2=c!/\Q (.bl (am! cb (! eqD d1 d2) (eqD d1 d2))) H)
theorem zq5(hu:X.A.units+64<nc!):dP! .Eq (zuk J! r!):=by
 intro ae s O H x y v u Q I rx ry ⟨Y,d1,d2,h1,h2,p1,p2,q⟩;obtain⟨as,ra⟩:=Den.reads eL! (_bj p1) h1 rx;obtain⟨bs,rb⟩:=Den.reads eL! (_bj p2) h2 ry;exact SeqAt.compareEq_shaped ra rb p1 p2 hu (bn! (.bl (eqD d1 d2)) H I q)
theorem zqQ(hu:X.A.units+64<nc!):dP! .NotEq (zuk J! c!):=by
 intro ae s O H x y v u Q I rx ry ⟨Y,d1,d2,h1,h2,p1,p2,q⟩;obtain⟨as,ra⟩:=Den.reads eL! (_bj p1) h1 rx;obtain⟨bs,rb⟩:=Den.reads eL! (_bj p2) h2 ry;exact SeqAt.compareNe_shaped ra rb p1 p2 hu (bn! (.bl (! eqD d1 d2)) H I q)
theorem z3O(hu:X.A.units+64<nc!):∃r,dP! .Eq r/\cS! dEq:=⟨_,zq5 hu,λH Y s d1 d2 v1 v2 Q r h1 h2 h=>by
 unfold dEq at h;split at h
 ·rename_i hc;exact⟨Y,d1,d2,h1,h2,hc.1,hc.2,eX! wv⟩
 ·exact h.elim⟩
theorem z55(hu:X.A.units+64<nc!):∃r,dP! .NotEq r/\cS! dNe:=⟨_,zqQ hu,λH Y s d1 d2 v1 v2 Q r h1 h2 h=>by
 unfold dNe at h;split at h
 ·rename_i hc;exact⟨Y,d1,d2,h1,h2,hc.1,hc.2,eX! wv⟩
 ·exact h.elim⟩
noncomputable def zaK:D->bm! V
 | .non=>b! aJ! | .bl b=>b! (.bl b) | .int i=>ch! | .str x=>b! aY! | _=>none
theorem zbb(h:zaK d=b! w)(dn:fI!):v=w/\z7I v=c!:=by cases d<;>first | (cases h;subst dn;exact co! rfl) | cases h
noncomputable def z1K:v!->bm! aG!
 | []=>b! [] | d::ds=>match zaK d,z1K ds with | some v,some vs=>b! (v::vs) | _,_=>none
theorem z8w: ∀{ds:List D}{vs ws:List V},z1K ds=b! ws->ja!->vs=ws/\vs.all z7I=c!
 | [],_,_,h,dn=>by cases h;subst dn;exact co! rfl | d::ds,_,_,h,dn=>by
  obtain⟨v,vs,rfl,h1,h2⟩:=dn;simp only[z1K]at h;split at h
  ·rename_i w ws e1 e2;cases h;obtain⟨a1,a2⟩:=zbb e1 h1;obtain⟨b1,b2⟩:=z8w e2 h2;exact⟨by rw[a1,b1],by rw[_cl,a2,b2];rfl⟩
  ·cases h
noncomputable def za6(cb:Bool)(x y:D)(s:Sto):R D:=match zaK x,B! (zY s y) z1K with
 | some v,some vs=>bz! (am! cb (! inV v vs) (inV v vs)) | _,_=>.no
theorem zlG{cb:Bool}:OpF X E (rIn X.K cb) (za6 cb):=λH Y s d1 d2 v1 v2 Q r h1 h2 h=>by
 unfold za6 at h;split at h
 ·rename_i v vs e1 e2;cases e3:zY s d2 with
  | none=>rw[e3]at e2;cases e2 | some xs=>
   rw[e3]at e2;obtain⟨a,ws,rfl,q1,q2⟩:=qW r e3 h2;obtain⟨b1,b2⟩:=z8w e2 q2;obtain⟨a1,a2⟩:=zbb e1 h1;subst a1 b1;exact⟨a,ws,rfl,q1,a2,b2,eX! wv⟩
 ·exact h.elim
theorem zul:∃r,dP! .In r/\cS! (za6 r!):=bM! zhF zlG
theorem zmV:∃r,dP! .NotIn r/\cS! (za6 c!):=bM! za9 zlG
noncomputable def dIs:D->D->bl!
 | .bl a,.bl b,s=>bz! (a==b) | .non,.non,s=>b3! | .bl _,.non,s=>dZ! | .int _,.non,s=>dZ! | .str _,.non,s=>dZ! | .tup _,.non,s=>dZ! | .lst _,.non,s=>dZ! | _,_,_=>.no
theorem zqu:dP! .Is (hI! (∃a b,x=.bl a/\y=.bl b/\Q (.bl (a==b)) H)):=by
 intro ae s O H x y v u Q I rx ry ⟨a,b,e1,e2,q⟩;subst e1 e2;cases rx;cases ry;exact is_bool (bn! (.bl (a==b)) H I q)
theorem zu5:∃r,dP! .Is r/\cS! dIs:=⟨_,zqu.or zoo,λH Y s d1 d2 v1 v2 Q r h1 h2 h=>by cases d2 with
 | bl b=>cases d1 with
  | bl a=>cases kS h1;cases kS h2;exact y! (bn! _ _ rfl (hi! h wv)) | _=>exact bZ! (show False from h)
 | non=>cases d1 with
  | non=>subst h1 h2;exact ef! rfl (by exact (hi! h wv)) | bl _=>subst h1 h2;exact ef! rfl (by exact (hi! h wv)) | int _=>subst h1 h2;exact ef! rfl (by exact (hi! h wv)) | str _=>subst h1 h2;exact ef! rfl (by exact (hi! h wv)) | tup _=>obtain⟨a,vs,rfl,_⟩:=h1;subst h2;exact ef! rfl (by exact (hi! h wv)) | lst _=>obtain⟨a,o,vs,rfl,_⟩:=h1;subst h2;exact ef! rfl (by exact (hi! h wv)) | _=>exact bZ! (show False from h)
 | _=>cases d1<;>exact bZ! (show False from h)⟩
noncomputable def dIx(x y:D)(s:Sto):R D:=match y,zY s x with
 | .int i,some xs=>match atI xs i with | some d=>j! d | none=>.no
 | _,_=>.no
theorem zj7(h:ht!)(e:atI xs i=k!):∃v,atI vs i=bP!/\fI!:=by
 unfold atI at e ⊢;rw[h.length];cases q:kQ! i with
 | none=>rw[q]at e;cases e | some j=>
  rw[q]at e;exact h.get e
theorem zvz:∃r,IxR X r/\cS! dIx:=⟨_,zmK.or zpR,λH Y s d1 d2 v1 v2 Q r h1 h2 h=>by
 unfold dIx at h;split at h
 ·rename_i i xs e;split at h
  ·rename_i d e2;cases yp h2;obtain⟨a,vs,rfl,q1,q2⟩:=qW r e h1;obtain⟨v,e3,e4⟩:=zj7 q2 e2;rcases q1 with q1 | q1;·exact y! ⟨a,vs,i,v,rfl,rfl,q1,e3,eX! e4⟩
   ·exact Q! ⟨a,vs,i,v,rfl,rfl,q1,e3,eX! e4⟩
  ·exact h.elim
 ·exact h.elim⟩
end
section
variable {X:Cx}{E:XK}{e a b c:Expr}{es:aE!}{pos:Pos}
theorem zD(ho:∃r,gv! op r/\cS! fo)(ha:f0! a)(hb:V! b fb):V! (.BinOp a op b pos) (eOp fo fa fb):=let ⟨_,h⟩:=ho;zuX h ha hb
theorem uw(ho:∃r,dP! op r/\cS! fo)(ha:f0! a)(hb:V! b fb)(hm:pL! b=r!:=by first | exact zlI _ | rfl):V! (.Compare a [op] [b] pos) (eOp fo fa fb):=let ⟨_,h⟩:=ho;zri h ha hb hm
noncomputable def tOf(f:FE):FT:=eO! (d5! (match d with | .bl k=>M! k | _=>.no))
theorem zdc(h:tT J! E (tOf f) O H Q):zpt (tE J! E f) O H Q:=by
 obtain⟨Y,ρ,s,r,en,h⟩:=h;refine yJ (k:=kD! (match d with | .bl k=>M! k | _=>.no)) r en h _ λv H1 Y1 s1 d r1 av dn stp h1=>?_;cases d with
 | bl k=>
  cases kS dn;exact aC! k (rx! rfl) | _=>exact h1.elim
theorem yc(ho:∃r,dP! op r/\cS! fo)(ha:f0! a)(hb:V! b fb)(hm:pL! b=r!:=by first | exact zlI _ | rfl):RT X E (.Compare a [op] [b] pos) (gP! fo fa fb):=by
 obtain⟨r,h1,h2⟩:=ho;exact zhH (zmB h1 ha hb hm) λO H Q h=>zeg h2 (zdc h)
noncomputable def zen(fo dh:D->D->bl!)(fa fb fc:FE):FE:=b0! (gA! s) (λx s1=>B! f4! (λy s2=>B! (fo x y s2) (λz s3=>match z with
 | .bl true=>B! (fc ρ s3) (λw s4=>dh y w s4) | .bl false=>.ok cJ! s3 | _=>.no)))
theorem zgX(ho:cS! fo)(bY:OpF X E r' dh) (h:tE J! E (zen fo dh fa fb fc) O H Q):zkR r r' (tE J! E fa) (tE J! E fb) (tE J! E fc) O H Q:=by
 obtain⟨Y,ρ,s,rp,en,h⟩:=h;refine yJ (k:=lx! (B! f4! (λy s2=>B! (fo x y s2) (λz s3=>match z with
  | .bl true=>B! (fc ρ s3) (λw s4=>dh y w s4) | .bl false=>.ok cJ! s3 | _=>.no)))) rp en h _ λv H1 Y1 s1 d r1 av dn stp h1=>(yJ (k:=fun ρ y s2=>B! (fo d y s2) (λz s3=>match z with
  | .bl true=>B! (fc ρ s3) (λw s4=>dh y w s4) | .bl false=>.ok cJ! s3 | _=>.no)) r1 av h1 _ λv2 H2 Y2 s2 d2 r2 aX ax ag h2=>(ho H2 Y2 s2 d d2 v v2 _ r2 lV! ax (dc! h2 (λv3 H3 ⟨Y3,s3,d3,aq,cA,h3⟩=>?_))));cases d3 with
 | bl k=>
  cases kS cA;refine aC! k ?_;cases k with
  | true=> exact yJ (k:=fun ρ w s4=>dh d2 w s4) aq.rep (aX.mono aq) h3 _ λv4 H4 Y4 s4 d4 r4 hX mS bG h4=>(bY H4 Y4 s4 d2 d4 v2 v4 Q r4 ((ax.mono aq).mono bG) mS h4) | false=> exact n8! h3 aq.rep wv
 | _=>exact h3.elim
theorem zn8(ho:∃r,dP! op r/\cS! fo)(bY:∃r,dP! df r/\cS! dh)(ha:f0! a)(hb:V! b fb)(hc:V! c fc) (hm:autoParam (lastMarks [op,df] [b,c]=r!) aWu):V! (.Compare a [op,df] [b,c] pos) (zen fo dh fa fb fc):=by
 obtain⟨r,h1,h2⟩:=ho;obtain⟨r',mT,ci⟩:=bY;exact yk (zjN h1 mT ha hb hc hm) λO H Q h=>zgX h2 ci h
noncomputable def zaN(fa fb:FE):FE:=b0! (gA! s) (λx s1=>match x with | .bl true=>f4! | .bl false=>M! cJ! | _=>.no)
noncomputable def zra(fa:FE):FE:=b0! (gA! s) (λx s1=>match x with | .bl k=>M! (.bl (!k)) | _=>.no)
variable {jC:aE!}
theorem z4P(h:V! a f):V! (hh! op [a]) f:=zpf h
theorem z3w(ha:f0! a)(hb:V! (hh! .And (b::jC)) fb):V! (hh! .And (a::b::jC)) (zaN fa fb):= yk (zos ha hb) λO H Q ⟨Y,ρ,s,r,en,h⟩=>by
  refine yJ (k:=lx! (match x with | .bl true=>f4! | .bl false=>M! cJ! | _=>.no)) r en h _ λv H1 Y1 s1 d r1 av dn stp h1=>?_;cases d with
  | bl k=>
   cases kS dn;refine aC! k ?_;cases k with
   | true=>exact⟨Y1,ρ,s1,r1,av,h1⟩ | false=>exact n8! h1 r1 wv
  | _=>exact h1.elim
theorem zpe(ha:f0! a):V! (.UnaryOp .Not a pos) (zra fa):= yk (zqr ha) λO H Q ⟨Y,ρ,s,r,en,h⟩=>by
  refine yJ (k:=lx! (match x with | .bl k=>ep! (D.bl (!k)) s1 | _=>.no)) r en h _ λv H1 Y1 s1 d r1 av dn stp h1=>?_;cases d with
  | bl k=>
   cases kS dn;exact aC! k (n8! h1 r1 wv) | _=>exact h1.elim
noncomputable def zkV(fa fb:FT):FT:=b0! (gA! s) (λx s1=>aF! x f4! (M! r!))
noncomputable def fOr(fa fb:FT):FT:=b0! (gA! s) (λx s1=>aF! x (M! c!) f4!)
noncomputable def z1N(fa:FT):FT:=b0! (gA! s) (λx s1=>M! (!x))
def RW(X:Cx)(E:XK)(e:Expr)(f:FT):g!:=PW X e (tT J! E f)
theorem RW.rt(h:RW X E e f):RT X E e f:=PW.pt h
theorem zl5(h:PW X e t)(i:∀O H Q,t' O H Q->t O H Q):PW X e t':=λwh ae s O H Q I q=>h wh ae s O H Q I (i O H Q q)
theorem zgD(h:RT X E a f):RW X E (hh! .And [a]) f:=znk h
theorem zaQ(h:RT X E a f):RW X E (hh! .Or [a]) f:=zpu h
theorem w_and(ha:RT X E a fa)(hb:RW X E (hh! .And (b::jC)) fb):RW X E (hh! .And (a::b::jC)) (zkV fa fb):= zl5 (zpq ha hb) λO H Q ⟨Y,ρ,s,r,en,h⟩=>by
  refine z6q (k:=lx! (aF! x f4! (M! r!))) r en h _ λv H1 Y1 s1 r1 av stp h1=>?_;cases v with
  | true=>exact⟨Y1,ρ,s1,r1,av,h1⟩ | false=>exact rx! rfl
theorem zkc(ha:RT X E a fa)(hb:RW X E (hh! .Or (b::jC)) fb):RW X E (hh! .Or (a::b::jC)) (fOr fa fb):= zl5 (zsV ha hb) λO H Q ⟨Y,ρ,s,r,en,h⟩=>by
  refine z6q (k:=lx! (aF! x (M! c!) f4!)) r en h _ λv H1 Y1 s1 r1 av stp h1=>?_;cases v with
  | false=>exact⟨Y1,ρ,s1,r1,av,h1⟩ | true=>exact rx! rfl
theorem z02(ha:RT X E a fa):RT X E (.UnaryOp .Not a pos) (z1N fa):= zhH (zoV ha) λO H Q ⟨Y,ρ,s,r,en,h⟩=>z6q (k:=lx! (M! (!x))) r en h _ λv H1 Y1 s1 r1 av stp h1=>rx! rfl
theorem qG(h:V! a f)(he:autoParam (∀whole,qa! a aX! whole=(do let v <- whole;standAt a.pos;nZ! [v] (truthy v))) aIr):RT X E a (tOf f):= zhH (zqh h he) λO H Q h=>zdc h
noncomputable def eIf(ft:FT)(fa fb:FE):FE:=b0! (ft ρ s) (λx s1=>aF! x (gA! s1) f4!)
theorem zqY(hc:RT X E c ft)(ha:f0! a)(hb:V! b fb):V! (.IfExp c a b pos) (eIf ft fa fb):= yk (zjp hc ha hb) λO H Q ⟨Y,ρ,s,r,en,h⟩=>z6q (k:=lx! (aF! x (gA! s1) f4!)) r en h _ λv H1 Y1 s1 r1 av stp h1=>by cases v with
  | true=>exact⟨Y1,ρ,s1,r1,av,h1⟩ | false=>exact⟨Y1,ρ,s1,r1,av,h1⟩
theorem xI(ha:f0! a)(hb:V! b fb)(hs:zcF b:=by intro _ _;rfl):V! (mw! a b) (df! fa fb):=by
 obtain⟨r,h1,h2⟩:=zvz;exact yk (zpo h1 ha hb hs) λO H Q h=>zeg h2 h
noncomputable def zj:FA:=λ_ s=>j! []
noncomputable def zb(fa:FE)(fr:FA):FA:=b0! (gA! s) (λx s1=>B! (fr ρ s1) (λxs s2=>bD! (x::xs)))
theorem zg:RA X E [] zj:=zkU z0y λO H Q ⟨Y,ρ,s,r,en,h⟩=>eX! yj.nil
theorem qO(ha:f0! e)(hr:RA X E es fr)(hs:A! (aw! (e::es)=dQ!::iw!)):RA X E (e::es) (zb fa fr):= zkU (wz ha hr hs) λO H Q ⟨Y,ρ,s,r,en,h⟩=>by exact yJ (k:=lx! (B! (fr ρ s1) (λxs s2=>bD! (x::xs)))) r en h _ λv H1 Y1 s1 d r1 av dn stp h1=>(qh (k:=fun ρ xs s2=>bD! (d::xs)) r1 av h1 _ λvs H2 Y2 s2 ds r2 aX ax ag h2=>(h2.here r2 (pc! lV! ax)))
noncomputable def uD(f:FA):FE:=b0! aM! (jt! (ab! i3! (M! ah!)))
theorem wx(h:RA X E es f):V! (hH! es x1 pos) (uD f):= yk (zkQ h) λO H Q ⟨Y,ρ,s,r,en,h⟩=>by
  refine qh (k:=nh! (ab! i3! (ep! (gJ! xs) s1))) r en h _ λvs H2 Y2 s2 ds r2 aX ax ag h2=>?_;split at h2
  ·rename_i hl;exact⟨by rw[ax.length];exact kO hl,z45 r2 h2 ax⟩
  ·exact h2.elim
noncomputable def kQ(f:FA):FE:=b0! aM! (jt! (ab! i3! (M! cq!)))
theorem vN(h:RA X E es f):V! (.List es pos) (kQ f):= yk (zlJ h).freeze λO H Q ⟨Y,ρ,s,r,en,h⟩=>by
  refine qh (k:=nh! (ab! i3! (ep! (D.lst xs) s1))) r en h _ λvs H2 Y2 s2 ds r2 aX ax ag h2=>?_;split at h2
  ·rename_i hl;exact⟨by rw[ax.length];exact kO hl,z06 r2 h2 ax⟩
  ·exact h2.elim
noncomputable def z9W(f:FA):FE:=b0! aM! (jt! (ab! (i3!/\da! xs) (.ok sA! (s1++[xs]))))
theorem zfB{Q:VK}(r:d7!)(h:eF! E H Y (Den mg) (gs! (s++[xs])) Q)(hf:da! xs)(hd:ht!):∀p,gB!->Q b6! (fL! cp!):=bq! (by exact h _ _ _ (vD.layL r hp hd hf) ⟨p,rfl,by rw[<- r.len];simp,vs,yu⟩)
theorem z7L(h:RA X E es f):V! (.List es pos) (z9W f):= yk (zlJ h) λO H Q ⟨Y,ρ,s,r,en,h⟩=>by
  refine qh (k:=nh! (ab! (i3!/\da! xs) (ep! (D.loc s1.length) (s1++[xs])))) r en h _ λvs H2 Y2 s2 ds r2 aX ax ag h2=>?_;split at h2
  ·rename_i hl;exact⟨by rw[ax.length];exact kO hl.1,zfB r2 h2 hl.2 ax⟩
  ·exact h2.elim
def z1P(X:Cx)(E:XK)(r:aG!->Hp->eA!)(g:v!->bl!):g!:= ∀H Y s ds vs (Q:VK),Rep J! H Y s->yj J! H Y ds vs->okR J! E H Y k3! (g ds s) Q->r vs H Q
noncomputable def ze(g:v!->bl!)(f:FA):FE:=b0! aM! (jt! (g xs s1))
theorem zE{p:Pos} {id:String} (hc:∃r,jA! X id r/\z1P X E r g) (hg:e7!) (hm:dF! x) (hv:ll! x=hV! id) (ha:RA X E (e::es) f) (hn:j5! (lT! x)) (aG:ce! (x==cH!)) (he:A! (aw! (e::es)=dQ!::iw!)) (au:d4! es (·.1)):V! (dl! x p (e::es)) (ze g f):=by
 obtain⟨r,h1,h2⟩:=hc;exact yk (z2O h1 hg hm hv ha hn aG he au) λO H Q ⟨Y,ρ,s,r,en,h⟩=> qh (k:=nh! (g xs s1)) r en h _ λvs H2 Y2 s2 ds r2 aX ax ag h3=>h2 H2 Y2 s2 ds vs Q r2 ax h3
theorem yr{p:Pos} (hc:∃r,wa X kn! r/\z1P X E r g) (hg:e7!) (hm:dF! x) (hv:kP! x kn!) (ha:RA X E (e::es) f) (hn:j5! (lT! x)) (aG:ce! (x==cH!)) (he:A! (aw! (e::es)=dQ!::iw!)) (au:d4! es (·.1)):V! (dl! x p (e::es)) (ze g f):=by
 obtain⟨r,h1,h2⟩:=hc;exact yk (zhA h1 hg hm hv ha hn aG he au) λO H Q ⟨Y,ρ,s,r,en,h⟩=> qh (k:=nh! (g xs s1)) r en h _ λvs H2 Y2 s2 ds r2 aX ax ag h3=>h2 H2 Y2 s2 ds vs Q r2 ax h3
inductive Dn1(mg:Gm)(H:Hp)(Y:an!)(d:D)(vs:aG!):g! | mk (v:V)(e:vs=[v])(dn:fI!)
inductive Dn2(mg:Gm)(H:Hp)(Y:an!)(d d':D)(vs:aG!):g! | mk (v v':V)(e:vs=[v,v'])(dn:fI!)(pO:km! d' v')
theorem z1I(h:pP! [d]):Dn1 mg H Y d vs:=by
 obtain⟨v,r,rfl,h1,rfl⟩:=h;exact aC! v h1
theorem za1(h:pP! [d,d']):Dn2 mg H Y d d' vs:=by
 obtain⟨v,r,rfl,h1,v',r',rfl,h2,rfl⟩:=h;exact gR! v v' h1 h2
noncomputable def yH:v!->bl!
 | [d],s=>match zY s d with | some xs=>t! x! | none=>.no
 | _,_=>.no
theorem vc:∃r,jA! X "len" r/\z1P X E r yH:=j7! zaI (by
 unfold yH at h;split at h
 ·split at h
  ·rename_i d xs e;obtain⟨v,rfl,dn⟩:=ld!;obtain⟨a,ws,rfl,q1,q2⟩:=qW r e dn;exact gR! a ws q1 (by rw[q2.length];exact eX! yA)
  ·exact h.elim
 ·exact h.elim)
noncomputable def zU:v!->bl!
 | [d],s=>match zY s d with | some xs=>j! ah! | none=>.no
 | _,_=>.no
theorem yU:∃r,wa X dC! r/\z1P X E r zU:=j7! z9M (by match ds,hd,h with
 | [],_,h=>exact h.elim | _::_::_,_,h=>exact h.elim | [d],hd,h=>
  obtain⟨v,rfl,dn⟩:=ld!;simp only[zU]at h;cases e:zY s d with
  | none=>rw[e]at h;exact h.elim | some xs=>
   rw[e]at h;cases d with
   | tup ys=>
    simp only[zY,_y]at e;subst e;obtain⟨a,ws,rfl,q1,q2⟩:=kZ dn;exact fg! a ws (ef! q1 (eX! dn)) | lst ys=>
    obtain⟨a,ws,rfl,q1,q2⟩:=yn (d:=hW!) r e dn;exact fg! a ws (y! ⟨y! q1,z45 r h q2⟩) | loc l=>
    obtain⟨a,ws,rfl,q1,q2⟩:=yn (d:=dK!) r e dn;exact fg! a ws (y! ⟨y! q1,z45 r h q2⟩) | scr ys=>
    simp only[zY,_y]at e;subst e;obtain⟨a,ws,rfl,q1,q2⟩:=zlj dn;exact fg! a ws (y! ⟨q1,z45 r h q2⟩) | _=>simp[zY]at e)
def z76:v!->bl!
 | [d],s=>match zY s d with | some xs=>j! cq! | none=>.no
 | _,_=>.no
theorem zge:∃r,wa X db! r/\z1P X E r z76:=j7! zbL.freeze (by
 unfold z76 at h;split at h
 ·split at h
  ·rename_i d xs e;obtain⟨v,rfl,dn⟩:=ld!;obtain⟨a,ws,rfl,q1,q2⟩:=qW r e dn;exact gR! a ws q1 (z06 r h q2)
  ·exact h.elim
 ·exact h.elim)
def zdd:v!->bl!
 | [.int i],s=>t! i | [.bl b],s=>t! (am! b 1 0) | _,_=>.no
theorem zmN:∃r,wa X (ar! eo!) r/\z1P X E r zdd:=j7! zh9 (by
 unfold zdd at h;split at h
 ·rename_i i;obtain⟨v,rfl,dn⟩:=ld!;cases yp dn;exact y! (aC! i (eX! yA))
 ·rename_i b;obtain⟨v,rfl,dn⟩:=ld!;cases kS dn;exact Q! (aC! b (eX! yA))
 ·exact h.elim)
noncomputable def zjW:v!->bl!
 | [.int i,.int j],s=>t! (am! (j > i) j i) | _,_=>.no
noncomputable def zki:v!->bl!
 | [.int i,.int j],s=>t! (am! (j<i) j i) | _,_=>.no
theorem zqW(hc:b2!):∃r,jA! X nC! r/\z1P X E r zjW:=j7! (zh0 hc) (by
 unfold zjW at h;split at h
 ·rename_i i j;obtain⟨v,v',rfl,d1,d2⟩:=za1 hd;cases yp d1;cases yp d2;exact fg! i j (eX! yA)
 ·exact h.elim)
theorem zpU(hc:b2!):∃r,jA! X nD! r/\z1P X E r zki:=j7! (zfO hc) (by
 unfold zki at h;split at h
 ·rename_i i j;obtain⟨v,v',rfl,d1,d2⟩:=za1 hd;cases yp d1;cases yp d2;exact fg! i j (eX! yA)
 ·exact h.elim)
abbrev FO:=Ev->el! dd!
def oD(_:Hp)(_:an!)(a b:dd!):g!:=a=b
def tO(mg:Gm)(E:XK)(f:FO):TO:=gI! (Wst mg E H O oD f Q)
def RO(X:Cx)(E:XK)(e:r1!)(f:FO):g!:=PO X e (tO J! E f)
theorem zkS(h:PO X o t)(i:∀O H Q,t' O H Q->t O H Q):PO X o t':=λae s O H Q I q=>h ae s O H Q I (i O H Q q)
noncomputable def zC:FO:=λ_ s=>j! a!
noncomputable def yt(f:FE):FO:=eO! (d5! (match d with | .int i=>M! h0! | _=>.no))
theorem xL:RO X E a! zC:=zkS zgC λO H Q ⟨Y,ρ,s,r,en,h⟩=>eX! rfl
theorem xu(h:fp! f):RO X E z! (yt f):=zkS (zni h) λO H Q ⟨Y,ρ,s,r,en,h⟩=>by
 refine yJ (k:=kD! (match d with | .int i=>M! h0! | _=>.no)) r en h _ λv H1 Y1 s1 d r1 av dn stp h1=>?_;cases d with
 | int i=>cases yp dn;exact aC! i (rx! rfl) | _=>exact h1.elim
noncomputable def cutD(xs:v!)(lo hi:dd!):v!:=(lk! (ih! 0 lo)).take (ih! x! hi-ih! 0 lo)
theorem z97(h:ht!)(lo hi:dd!):fZ! H Y (cutD xs lo hi) (zod vs lo hi):=by
 unfold cutD zod;rw[h.length];exact (h.drop _).take _
noncomputable def dSl(x:D)(lo hi:dd!)(s:Sto):R D:=match x with
 | .tup xs=>bc! (cutD xs lo hi) | x=>match l4! x with | some xs=>bt! (cutD xs lo hi) | none=>.no
noncomputable def eSl(fe:FE)(fl fh:FO):FE:=b0! (fe ρ s) (λx s1=>B! (fl ρ s1) (λlo s2=>B! (fh ρ s2) (λhi s3=>dSl x lo hi s3)))
theorem zcK{k:Ev->dd!->el! α} {Q:β->bQ!} (r:d7!)(en:hC! H Y O) (h:eF! E H Y Dn (kc! (k ρ)) Q)(K:dd!->bQ!) (hK:∀v H1 Y1 s1,Rep mg H1 Y1 s1->hC! H1 Y1 O->vD mg H Y H1 Y1 s1->eF! E H1 Y1 Dn (k ρ v s1) Q->K v H1):tO mg E f O H K:= ⟨Y,ρ,s,r,en,dc! h (λv H1 ⟨Y1,s1,d,stp,dn,q⟩=>hK v H1 Y1 s1 dz! im! stp (by cases (dn);exact q))⟩
theorem yK{lo hi:r1!} (he:fp! fe)(hl:RO X E lo fl)(hh:RO X E hi fh):V! (mw! e (.Slice lo hi a! p2)) (eSl fe fl fh):= yk (zdJ ((zpi.or znS).or zm6.freeze) he hl hh) λO H Q ⟨Y,ρ,s,r,en,h⟩=>by
  refine yJ (k:=lx! (B! (fl ρ s1) (λlo s2=>B! (fh ρ s2) (λhi s3=>dSl x lo hi s3)))) r en h _ λv H1 Y1 s1 d r1 av dn stp h1=>(zcK (k:=fun ρ lo s2=>B! (fh ρ s2) (λhi s3=>dSl d lo hi s3)) r1 av h1 _ λlo H2 Y2 s2 r2 aX ag h2=>?_);refine zcK (k:=fun ρ hi s3=>dSl d lo hi s3) r2 aX h2 _ λhi H3 Y3 s3 r3 mU aq h3=>?_;have cA:=(lV!).mono aq;cases d with
  | tup xs=>
   obtain⟨a,vs,rfl,q1,q2⟩:=kZ cA;have hY:okR J! E H3 Y3 k3! (.ok (p! (cutD xs lo hi)) s3) Q:=h3;by_cases hw:n3! dy! 0 lo=0/\n3! dy! dy! hi=dy!
   ·refine y! (Q! ⟨a,vs,rfl,q1,hw,?_⟩);rw[(show cutD xs lo hi=xs from by
     unfold cutD;rw[<- q2.length,hw.1,hw.2];simp[q2.length])]at hY;exact hY.here r3 cA
   ·exact y! (y! ⟨a,vs,rfl,q1,hw,z45 r3 hY (z97 q2 lo hi)⟩) | lst xs=>
   obtain⟨a,vs,rfl,q1,q2⟩:=yn r3 rfl cA;exact Q! ⟨a,vs,rfl,y! q1,z06 r3 h3 (z97 q2 lo hi)⟩ | loc l=>
   simp only[dSl]at h3;split at h3
   ·rename_i xs e;obtain⟨a,vs,rfl,q1,q2⟩:=yn r3 e cA;exact Q! ⟨a,vs,rfl,y! q1,z06 r3 h3 (z97 q2 lo hi)⟩
   ·exact h3.elim | _=>exact h3.elim
end
abbrev Mir:=v!->bl!
def ziT(mg:Gm)(M:Mir):Sp:=λvs H Q E=>∃Y s ds,d7!/\ja!/\eF! E H Y (Den mg) (M ds s) Q
def Has(P:Program)(w:World)(K:W.Frag)(mg:Str->aS!)(base:Heap)(CX:CXT)(x:Str)(n:Nat)(M:Mir):g!:= ∃f fd ps,z9e P w K mg O! CX n f fd ps (ziT ⟨mg,K⟩ M)/\kp! K ps []/\oL! K=c!/\fn! x fj!
section
variable {X:Cx}{E:XK}{e a b c:Expr}{es:aE!}{pos:Pos}{CX:CXT}
theorem zqN{p:Pos} (F:Has aT! X.w X.K fu! fb! CX x n M) (hr:z1U n X.A) (hx:kW! X E) (hg:e7!) (ha:RA X E (e::es) f) (aG:ce! (x==cH!)) (he:A! (aw! (e::es)=dQ!::iw!)) (au:d4! es (·.1)):V! (dl! x p (e::es)) (ze M f):=by
 obtain⟨fa,fd,ps,F,hb,hk,hm⟩:=F;refine yk (zmp F hr hg hm hk hb cu! hx ha aG he au) λO H Q ⟨Y,ρ,s,r,en,h⟩=>(qh (k:=nh! (M xs s1)) r en h _ λvs H2 Y2 s2 ds r2 aX ax ag h3=>?_);rw[_aK];exact⟨Y2,s2,ds,r2,ax,h3⟩
noncomputable def zx(f g:FS):FS:=b0! aM! (λfl s1=>match fl with | .nx ρ'=>g ρ' s1 | fl=>M! fl)
noncomputable def yY:FS:=eO! (aO! ρ)
variable {st:Stmt}{rs:nt!}
theorem zpO{D:zlg} (h:tS mg E (zx f g) D O H):zu9 (tS mg E f) (tS mg E g) D O H:=by
 obtain⟨Y,ρ,s,r,en,h⟩:=h;refine⟨Y,ρ,s,r,en,dc! h (λfv H1 ⟨Y1,s1,fl,stp,dn,q⟩=>?_)⟩;cases fl with
 | nx ρ'=> cases fv with
  | nx O'=>exact⟨Y1,ρ',s1,dz!,dn,q⟩ | _=>exact bZ! dn
 | rt d=> cases fv with
  | rt v=>exact okR.here (Q:=zik D) q stp.rep dn | _=>exact bZ! dn
 | bk ρ'=> cases fv with
  | bk v=>exact okR.here (Q:=zik D) q stp.rep dn | _=>exact bZ! dn
 | ct ρ'=> cases fv with
  | ct v=>exact okR.here (Q:=zik D) q stp.rep dn | _=>exact bZ! dn
theorem yD:RSs X E [] yY:=zha zmc λD O H ⟨Y,ρ,s,r,en,h⟩=>okR.here (b:=ni! O) h r en
theorem zh(h1:RS X E st f)(h2:RSs X E rs g):RSs X E (st::rs) (zx f g):=zha (ziC h1 h2) λD O H h=>zpO h
theorem zn(h1:RS X E st f):RSs X E [st] f:=zmb h1
noncomputable def fNo:FS:=λ_ _=>.no
theorem z5L:RS X E st fNo:=kM ziM λD O H ⟨_,_,_,_,_,h⟩=>h
noncomputable def we(f:FE):FS:=b0! aM! (λ_ s1=>g0! ρ)
theorem wI(he:fp! f)(hs:A! (mr! e a! n0!=mC!)):RS X E (.Expr e pos) (we f):= kM (znf he hs) λD O H ⟨Y,ρ,s,r,en,h⟩=>yJ (k:=fun ρ _ s1=>ep! (Fl.nx ρ) s1) r en h _ λv H1 Y1 s1 d r1 av dn stp h1=>okR.here (b:=ni! O) h1 r1 av
noncomputable def xf(f:FE):FS:=eO! (d5! (M! (.rt d)))
theorem zQ(he:fp! f):RS X E (.Return z! pos) (xf f):= kM (zoY he) λD O H ⟨Y,ρ,s,r,en,h⟩=>yJ (k:=kD! (ep! (Fl.rt d) s1)) r en h _ λv H1 Y1 s1 d r1 av dn stp h1=>okR.here (b:=FlV.rt v) h1 r1 dn
noncomputable def fIf(ft:FT)(f g:FS):FS:=b0! (ft ρ s) (λx s1=>aF! x (f ρ s1) (g ρ s1))
theorem z03(hc:RT X E c ft)(ha:RSs X E as f)(hb:RSs X E bs g):RS X E (.If c as bs pos) (fIf ft f g):= kM (ztx hc ha hb) λD O H ⟨Y,ρ,s,r,en,h⟩=>z6q (k:=lx! (aF! x (f ρ s1) (g ρ s1))) r en h _ λv H1 Y1 s1 r1 av stp h1=>by cases v with
  | true=>exact⟨Y1,ρ,s1,r1,av,h1⟩ | false=>exact⟨Y1,ρ,s1,r1,av,h1⟩
abbrev FG:=D->Ev->el! Ev
inductive WsG(mg:Gm)(E:XK)(v:V)(H:Hp)(O:L2.St)(f:FG)(Q:L2.St->bQ!):g! | mk (Y:an!)(ρ:Ev)(s:Sto)(d:D)(r:d7!)(en:hC! H Y O)(dn:fI!)(h:eF! E H Y (z1S mg) (f d ρ s) (λO' H'=>Q O' H'))
noncomputable def tG(mg:Gm)(E:XK)(f:FG):TG:=λv O H Q=>WsG mg E v H O f Q
def RG(X:Cx)(E:XK)(tg:Expr)(f:FG):g!:=PG X tg (tG J! E f)
theorem zku(h:PG X tg t)(i:∀v O H Q,t' v O H Q->t v O H Q):PG X tg t':=λae s O H v u Q I r q=>h ae s O H v u Q I r (i v O H Q q)
noncomputable def yh(i:Nat):FG:=λd ρ s=>j! (i1! k!)
theorem uC(i:Nat) (hN:X.N.Nodup)(hi:A! (gr! x))(hx:mt! (ii! x))(hf:ik! (hn! x\/fY! x)):RG X E mS! (yh i):= zku (zS hN hi hx hf) λv O H Q ⟨Y,ρ,s,d,r,en,dn,h⟩=>hi! h (en.set dn i)
noncomputable def yM(i j:Nat):FG:=λd ρ s=>match d with | .tup [x,y]=>j! (i8! (i1! dJ!) j y) | _=>.no
theorem z2b(i j:Nat){x y:Str}{px py:Pos}{kt:Nat}(hc:b2!)(hN:X.N.Nodup)(hi:A! (gr! x))(hj:A! (E! X.N j y))(hx:mt! (ii! x))(hy:mt! (ii! y)) (hf:ik! (hn! x\/fY! x))(ia:ik! (hn! y\/fY! y)): RG X E (jL! [fC! px,gC!] pos) (yM i j):= zku (zlx hc (z5v (zS hN hi hx hf) (z5v (zS hN hj hy ia) zht))) λv O H Q ⟨Y,ρ,s,d,r,en,dn,h⟩=>by
  unfold yM at h;split at h
  ·obtain⟨p,vs,rfl,q1,q2⟩:=kZ dn;obtain⟨v1,v2,rfl,e1,e2⟩:=za1 q2;exact⟨p,[v1,v2],rfl,q1,rfl,v1,[v2],rfl,v2,[],rfl,rfl,hi! h ((en.set e1 i).set e2 j)⟩
  ·exact h.elim
noncomputable def yq(i:Nat)(f:FE):FS:=eO! (d5! (g0! (i1! k!)))
theorem zR(i:Nat) {cC:Pos} (hN:X.N.Nodup)(he:fp! f)(hi:A! (gr! x))(hx:mt! (ii! x))(hs:A! (mr! e (b! (fC! cC)) n0!=mC!)) (hf:ik! (hn! x\/fY! x)):RS X E (.Assign [fC! cC] e pos) (yq i f):= kM (zqJ hN hi hx he hs hf) λD O H ⟨Y,ρ,s,r,en,h⟩=>yJ (k:=kD! (ep! (Fl.nx (i1! k!)) s1)) r en h _ λv H1 Y1 s1 d r1 av dn stp h1=>okR.here (b:=ni! (kV! i)) h1 r1 (av.set dn i)
noncomputable def zit(f:FE)(g:FG):FS:=eO! (d5! (B! (g d ρ s1) (fun ρ' s2=>D! ρ' s2)))
theorem zc0(he:fp! f)(hg:RG X E tg g)(hs:A! (rM! [tg] e aX!=mC!))(hw:A! (rP! [tg] e=dS! a!)) (h1:A! ((oz! [tg]).map (·.2)=[assign tg aX!])):RS X E (.Assign [tg] e pos) (zit f g):= kM (zla he hg hs hw h1) λD O H ⟨Y,ρ,s,r,en,h⟩=>yJ (k:=kD! (B! (g d ρ s1) (fun ρ' s2=>ep! (Fl.nx ρ') s2))) r en h _ λv H1 Y1 s1 d r1 av dn stp h1=> ⟨Y1,ρ,s1,d,r1,av,dn,dc! h1 (λO' H' ⟨Y2,s2,ρ',ag,aX,q⟩=>okR.here (b:=ni! O') q ag.rep aX)⟩
noncomputable def zr8(i j:Nat)(f:FA):FS:=b0! aM! (iN! (match ds with | [x,y]=>g0! (i8! (i1! dJ!) j y) | _=>.no))
theorem zqx(i j:Nat){x y:Str}{px py pt:Pos}{kt k2:Nat}{dY:Pos} (hc:b2!)(hN:X.N.Nodup)(ha:RA X E [a,b] f)(hi:A! (gr! x))(hj:A! (E! X.N j y))(aJ:j5! (i≠j)) (hx:A! (fY! x))(hy:A! (fY! y)) (hw:A! (rP! [jL! [fC! px,gC!] pt] (hH! [a,b] k2 dY)=dS! (b! [x,y]))) (hs:A! (rM! [jL! [fC! px,gC!] pt] (hH! [a,b] k2 dY) aX!=mC!)): RS X E (.Assign [jL! [fC! px,gC!] pt] (hH! [a,b] k2 dY) pos) (zr8 i j f):= kM (zpB hc hN hi hj aJ hx hy ha hw hs) λD O H ⟨Y,ρ,s,r,en,h⟩=>by
  refine qh (k:=fun ρ ds s1=>match ds with | [x,y]=>ep! (Fl.nx (i8! (i1! dJ!) j y)) s1 | _=>.no) r en h _ λvs H1 Y1 s1 ds r1 av dn stp h1=>?_;match ds,dn,h1 with
  | [],_,h1=>exact h1.elim | [_],_,h1=>exact h1.elim | _::_::_::_,_,h1=>exact h1.elim | [d1,d2],dn,h1=>
   obtain⟨v1,v2,rfl,e1,e2⟩:=za1 dn;exact fg! v1 v2 (okR.here (b:=ni! (i8! (O.set i (b! v1)) j v2)) h1 r1 ((av.set e1 i).set e2 j))
noncomputable def z0D(fo fi fv:FE):FS:=b0! (fv ρ s) (λd s1=>B! (fo ρ s1) (λo s2=>B! (fi ρ s2) (λi s3=>match o,i with
 | .loc l,.int k=>match s3[l]? with
  | some xs=>match kQ! k with
   | some j=>ab! mJ! (D! ρ (s3.set l (iE! j d))) | none=>.no
  | none=>.no
 | _,_=>.no)))
theorem zad:∀{xs:List D}{d:D}{j:Nat},da! xs->mJ!->da! (iE! j d)
 | [],_,_,_,_=>rfl | x::xs,d,0,h,hd=>by
  simp only[flC,flN,_R,_E]at h ⊢;exact as! hd h.2 | x::xs,d,j+1,h,hd=>by
  simp only[flC,flN,_R,_L]at h ⊢;exact⟨h.1,zad h.2 hd⟩
theorem z4o:∀{xs ys:List D},da! xs->da! ys->da! (xs++ys)
 | [],_,_,h=>h | x::xs,ys,h,h'=>by
  simp only[flC,flN,_R,_bF]at h ⊢;exact⟨h.1,z4o h.2 h'⟩
theorem z0G(hv:fp! fv)(ho:V! o fo)(hi:V! i fi) (ha:∀v,assign (rq! o i) aX! v=(do
   let ov <- nZ! [v] gw! let iv <- nZ! [v,ov] (hc! i)
   standAt p1
   nZ! [v,ov,iv] (setItem ov iv v)
   release [v,ov,iv] []):=by intro _;rfl) (hs:A! (rM! [rq! o i] e aX!=mC!))(hw:A! (rP! [rq! o i] e=dS! a!)) (h1:A! ((oz! [rq! o i]).map (·.2)=[assign (rq! o i) aX!])):RS X E (.Assign [rq! o i] e pos) (z0D fo fi fv):= kM (zla hv (zol ho hi set_list ha) hs hw h1) λD O H ⟨Y,ρ,s,r,en,h⟩=>by
  refine⟨Y,ρ,s,r,en,dc! h (λv H1 ⟨Y1,s1,d,stp,dn,h1⟩=>⟨Y1,ρ,s1,dz!,im!,dc! h1 (λov H2 ⟨Y2,s2,od,ag,ax,h2⟩=>⟨Y2,ρ,s2,ju!,(im!).mono ag,dc! h2 (λiv H3 ⟨Y3,s3,id,aq,cA,h3⟩=>?_)⟩)⟩)⟩;have dv:=(lV!).mono aq;have mV:=ax.mono aq;cases od with
  | loc l=> cases id with
   | int k=>
    simp only at h3;split at h3
    ·rename_i xs ex;split at h3
     ·rename_i j ej;split at h3
      ·rename_i hf;cases yp cA;obtain⟨a,rfl,e1,ka⟩:=mV;obtain⟨vs,q1,q2⟩:=aq.rep.at_ ex e1 ka;have bG:=vD.put aq.rep e1 ka (q2.set j dv) (zad (aq.rep.flat xs (_w ex)) hf);exact⟨a,vs,k,j,rfl,rfl,q1,by rw[q2.length];exact ej,h3 (.nx O) _ _ bG ((((im!).mono ag).mono aq).mono bG)⟩
      ·exact h3.elim
     ·exact h3.elim
    ·exact h3.elim | _=>exact h3.elim
  | _=>exact h3.elim
noncomputable def zcA(fo fv:FE):FE:=b0! (fo ρ s) (λo s1=>match o with
 | .loc l=>B! (fv ρ s1) (λd s2=>match s2[l]? with
  | some xs=>ab! (mJ!/\x!<cap) (.ok aJ! (oa! l (xs++[d]))) | none=>.no)
 | _=>.no)
theorem kz{ao:Pos} (ho:V! o fo)(hv:fp! fv)(am:A! (lO! o "append" gw!=gw!)) (aH:dg! (hs! (hP! pos [e]) (! x.1)&&hs! (nA! pos []) (iF! x.1) && bw! (q! [e]+q! ([]:gO!)+(np! ([]:gO!) 0 1)<30))) (ai:dg! (sk! n0!))(hs:A! (aw! [e]=dQ!::aw! []))(aw:d4! [] (·.1)): V! (fw! (mz! o "append") [e] [] pos) (zcA fo fv):= yk (znL _bX PySem.F.slot_list_append PySem.F.type_list_append zh5 ho (wz hv z0y hs) am aH ai hs aw) λO H Q ⟨Y,ρ,s,r,en,h⟩=>by
  refine⟨Y,ρ,s,r,en,dc! h (λov H1 ⟨Y1,s1,od,stp,dn,h1⟩=>?_)⟩;cases od with
  | loc l=>
   refine as! (by
    obtain⟨a,rfl,e1,vs,e2⟩:=dn;exact y! ⟨rfl,vs,y! (y! e2)⟩) ⟨Y1,ρ,s1,dz!,im!,dc! h1 (λv H2 ⟨Y2,s2,d,ag,ax,h2⟩=>?_)⟩;split at h2
   ·rename_i xs ex;split at h2
    ·rename_i hf;obtain⟨a,rfl,e1,ka⟩:=lV!;obtain⟨vs,q1,q2⟩:=ag.rep.at_ ex e1 ka;refine⟨a,vs,v,rfl,rfl,q1,by rw[q2.length];exact zqG hf.2,h2 aJ! _ _ (vD.put ju! e1 ka (q2.append (yj.one ax)) (z4o (ag.rep.flat xs (_w ex)) (by simp[flC,flN,hf.1]))) (by rfl)⟩
    ·exact h2.elim
   ·exact h2.elim | _=>exact h1.elim
end
end Dd
namespace L2
theorem zqa(hl:S! l tl):PI X tg l (λO H R=>tl O H (hG! (∃a,x=ac!/\(((∃xs,SqL X.K H1 a xs)/\R (Itl X.K a) H1)\/((∃xs,SqT X.K H1 a xs)/\R (Itt X.K a) H1))))):=by
 refine λae s O H R I h=>thn (hl ae s O H _ I h) λv s1 ⟨x,H1,I1,r1,q1⟩=>?_;obtain⟨a,e,q⟩:=q1;subst e;cases r1;rcases q with⟨⟨xs,hq⟩,q⟩ | ⟨⟨xs,hq⟩,q⟩
 ·obtain⟨af,rv,p,hz⟩:=I1.list hq;refine wpAny_pyIter_list p.isList ⟨iK!,[iK!],_,_,H1,rfl,n1! (l1! _ e),zgZ a _,fg! _ g2! rfl,cl! ?_,q⟩;have e:b=iK!:=by simpa using hb
  subst e;exact rN! al! al!
 ·obtain⟨af,rv,p,hz⟩:=I1.tuple hq;refine wpAny_pyIter_tuple (p) ⟨iK!,[iK!],_,_,H1,rfl,n1! (l1! _ e),zfa a _,fg! _ g2! rfl,cl! ?_,q⟩;have e:b=iK!:=by simpa using hb
  subst e;exact rN! al! al!
theorem z58.freeze(h:z58 X ae O C (zjl Q) acc s'):z58 X ae O C Q acc s':=by
 obtain⟨v,Hf,I,r,⟨a,xs,rfl,ha,q⟩,hm,f⟩:=h;obtain⟨af,n,rv,e,_⟩:=I.lst ha;refine⟨_,_,I.freeze ha e (by intro _ z;cases z) (by intro _ _ z;cases z) (by intro _ z;cases z) (by intro _ z;cases z),r,q _,hm,?_,f.2⟩;rw[zJ (λz=>by have:=f.1;rw[z,ha]at this;cases this)];exact f.1
theorem zcc{pos aF py:Pos} (N':aq!)(mp:eY!)(hN:X.N.Nodup)(hy:gr! y)(cL:ii! y) (hc:b2!)(hi:PI X tg ic! wi)(hg:lY! ct! tg g)(ht:lU! ct! aC ti)(he:∀ex s H,PE ct! az te) (aV:ke!)(aR:∀y∈scope.names,jV! y.1=b! y.2) (aI:∀y∈scope.names,y.2=bT!->fP! y.1=ds!\/fP! y.1=b! bT!)(aW:kv! N' mp=c!) (hs:lc! (k4! x=lb!)) (cM:A! (mr! (f5! [gz! 0]) (b! gC!) qp!=ru!)) (hf:ik! (hn! y\/fY! y)): PS X (.Assign [gC!] (f5! [gz! 0]) aF) (lq! (zkn wi mp g ti te O H (zjl λv H'=>D.nx (kV! i) H'))):=by
 intro ae s O H D I h;rw[exec_Assign_Name_used _ _ _ _ cM];refine _a (_ck (_a (_a (_Z (_bQ rfl hs (kC λy hy hf=>I.ok.has _ (aI y hy hf)) aV (λy hy hl=>by rw[aR y hy,hl]) (thn (hi ae s O H _ I h) λxv s₁ h₁=>thn h₁ λeK s₂ h₂=>?_)) (λ_ s' hq=>_m (_m hq)) λ_ _ e=>e))));obtain⟨it,fp,tn,J,H2,e,I2,T,bj,f2,W,w0,turn⟩:=h₂;subst e;refine z3g hc hg ht he aV aR aI aW I2 T bj f2 W w0 turn ?_;intro acc C s' hd;obtain⟨v,Hf,I3,r,q,⟨m,hm⟩,f⟩:=hd.freeze;exact _cY (z6X I3 hN hy cL r (λeM I4 ⟨a,sb,ha⟩=>⟨m,hm.sameBut sb (by
  rcases ha with z | z;·rw[z];exact f.2.1
  ·exact _bT (f.2.2.2.2.1 y a z)),λh' hR=>⟨_,Hf,z1R I4 f hR,q⟩⟩) hf)
end L2
namespace Dd
open L2
noncomputable abbrev ItD:=v!×gm! Nat v!
def okG(g:gm! Nat v!)(all:v!)(s:Sto):g!:=∀p∈g,E! s p.1 p.2
def zt2(mg:Gm)(H0:Hp)(Y0:an!)(a:ItD)(J:It):g!:=∀H Y s,vD mg H0 Y0 H Y s->okG a.2 a.1 s->∀i:Nat, (∀d,aj! a.1 d->J.go i H/\∀x H',J.yld i H x H'->∃Y',vD mg H Y H' Y' s/\rc! H' Y' d x)/\(q! a.1<=i->J.stop i H)
abbrev FI:=Ev->el! ItD
def tI(mg:Gm)(E:XK)(f:FI):TI:=λO H Rr=>Wst mg E H O (zt2 mg) f Rr
def RI(X:Cx)(E:XK)(tg it:Expr)(f:FI):g!:=PI X tg it (tI J! E f)
section
variable {X:Cx}{E:XK}{e a b c tg:Expr}{es:aE!}{pos:Pos}{CX:CXT}
theorem z7Y(h:PI X tg it t)(i:∀O H Q,t' O H Q->t O H Q):PI X tg it t':=λae s O H Q I q=>h ae s O H Q I (i O H Q q)
noncomputable def zT(f:FE):FI:=eO! (d5! (match d with
 | .tup xs=>M! (xs,[]) | .lst xs=>M! (xs,[]) | .loc l=>match s1[l]? with | some xs=>M! (xs,[(l,xs)]) | none=>.no
 | _=>.no))
theorem wA(h:fp! f):RI X E tg e (zT f):=z7Y (zqa h) λO H Q ⟨Y,ρ,s,r,en,h⟩=>by
 refine⟨Y,ρ,s,r,en,dc! h (λv H1 ⟨Y1,s1,d,stp,dn,h1⟩=>?_)⟩;have lst:∀(a:Addr)(xs:List D)(g:List (Nat×List D)),(∀H2 Y2 s2,vD J! H1 Y1 H2 Y2 s2->okG g xs s2->∃ws,SqL X.K H2 a ws/\yj J! H2 Y2 xs ws)->zt2 J! H1 Y1 (xs,g) (Itl X.K a):=λa xs g hq H2 Y2 s2 ag hg i=>by
  obtain⟨ws,q1,q2⟩:=hq H2 Y2 s2 ag hg;refine⟨iM! ?_,λhl=>⟨ws,q1,by rw[q2.length];exact hl⟩⟩;obtain⟨v,e1,e2⟩:=q2.get hd;refine⟨ck! ws v q1 e1,λx H' ⟨e3,y⟩=>?_⟩;subst e3;have e4:=y ws q1;rw[e1]at e4;cases e4;exact⟨Y2,.refl ju!,e2⟩
 have tup:∀(a:Addr)(xs:List D),(∀H2 Y2 s2,vD J! H1 Y1 H2 Y2 s2->∃ws,SqT X.K H2 a ws/\yj J! H2 Y2 xs ws)->zt2 J! H1 Y1 (xs,[]) (Itt X.K a):=λa xs hq H2 Y2 s2 ag hg i=>by
  obtain⟨ws,q1,q2⟩:=hq H2 Y2 s2 ag;refine⟨iM! ?_,λhl=>⟨ws,q1,by rw[q2.length];exact hl⟩⟩;obtain⟨v,e1,e2⟩:=q2.get hd;refine⟨ck! ws v q1 e1,λx H' ⟨e3,y⟩=>?_⟩;subst e3;have e4:=y ws q1;rw[e1]at e4;cases e4;exact⟨Y2,.refl ju!,e2⟩
 cases d with
 | tup xs=>
  obtain⟨a,vs,rfl,q1,q2⟩:=kZ dn;refine aC! a (ef! (as! vs q1) (oB! (tup a xs λH2 Y2 s2 ag=>?_)));obtain⟨a',ws,e,q3,q4⟩:=kZ lV!;cases e;exact aV! ws q3 q4 | lst xs=>
  obtain⟨a,vs,rfl,q1,q2⟩:=yn dz! rfl dn;refine aC! a (y! ⟨⟨vs,y! q1⟩,oB! (lst a xs [] λH2 Y2 s2 ag _=>?_)⟩);obtain⟨a',ws,e,q3,q4⟩:=yn ju! rfl lV!;cases e;exact⟨ws,y! q3,q4⟩ | loc l=>
  simp only at h1;split at h1
  ·rename_i xs ex;obtain⟨a,vs,rfl,q1,q2⟩:=yn (d:=dK!) stp.rep ex dn;refine aC! a (y! ⟨⟨vs,y! q1⟩,oB! (lst a xs [(l,xs)] λH2 Y2 s2 ag hg=>?_)⟩);obtain⟨a',ws,e,q3,q4⟩:=yn (d:=dK!) ag.rep (hg (l,xs) (by simp)) lV!;cases e;exact⟨ws,y! q3,q4⟩
  ·exact h1.elim | _=>exact h1.elim
end
section
variable {X:Cx}{E:XK}{e a b c tg:Expr}{es:aE!}{pos:Pos}{CX:CXT}
noncomputable def ym(n:Nat):v!:=aR! n (λ(k:Nat)=>aD! (Z! k))
noncomputable def jw(f:FA):FI:=b0! aM! (iN! (match ds with
 | [.int j]=>ab! (-(2 ^ 62)<=j/\j<2 ^ 62) (M! (r6!,[])) | _=>.no))
theorem xV(hg:oR!)(hm:dF! fr!)(ha:RA X E [a] f)(hs:A! (aw! [a]=[dY! a])):RI X E tg (dl! fr! p [a]) (jw f):= z7Y (zi0 hg hm ha hs) λO H Q ⟨Y,ρ,s,r,en,h⟩=>by
  refine⟨Y,ρ,s,r,en,dc! h (λvs H1 ⟨Y1,s1,ds,stp,dn,h1⟩=>?_)⟩;split at h1
  ·rename_i j;split at h1
   ·rename_i hj;obtain⟨v,rfl,d1⟩:=z1I dn;cases yp d1;refine⟨j,rfl,hj.1,hj.2,oB! (λH2 Y2 s2 ag _ i=>⟨iM! ?_,λhl=>?_⟩)⟩
    ·have hi:i<kB!:=by simpa[ym] using (cM! hd)
     refine⟨hi,λx H' ⟨e1,e2⟩=>?_⟩;subst e1 e2;refine⟨Y2,.refl ju!,?_⟩;rw[(show d=aD! i from by
      simp only[ym,_A,_aF hi,_ag,_y]at hd;exact hd.symm)];exact _at V.int (_aO _)
    ·rw[<- (show q! r6!=kB! from by simp[ym])];exact hl
   ·exact h1.elim
  ·exact h1.elim
open Classical in
noncomputable def yL(g:gm! Nat v!)(all:v!)(body:D->Ev->el! Fl):v!->Ev->el! Fl
 | [],ρ,s=>ab! (okG g all s) (aO! ρ) | x::xs,ρ,s=>ab! (okG g all s) (B! (body x ρ s) (λfl s1=>match fl with
   | .nx ρ'=>yL g all dT! xs ρ' s1 | .ct ρ'=>yL g all dT! xs ρ' s1 | .bk ρ'=>g0! ρ' | .rt d=>M! (.rt d)))
noncomputable def z4J(fi:FI)(fg:FG)(fb:FS):FS:=b0! (fi ρ s) (λit s1=>yL it.2 it.1 (ee! (fg d ρ s) (fb ρ' s')) it.1 ρ s1)
inductive WkF(mg:Gm)(E:XK)(D:zlg)(H1:Hp)(Y1:an!)(n:Nat)(G:Nat->Ev->el! Fl)(i m:Nat)(O:L2.St)(H:Hp):g! | mk {Y:an!}{ρ:Ev}{s:Sto}(st:vD mg H1 Y1 H Y s)(en:hC! H Y O)(hm:m=n-i)(hi:i<=n)(h:eF! E H Y (FlD mg) (G i ρ s) (zik D)):WkF mg E D H1 Y1 n G i m O H
theorem ku(hp:PassesOwn (oH! X.w) X.A aX! X.xe)(hc:b2!)(hi:RI X E tg ic! fi)(hg:RG X E tg fg)(hb:RSs X E dT! fb) (hs:lc! (k4! x=lb!)):RS X E (.For tg ic! dT! [] pos) (z4J fi fg fb):= kM (zpD hp hc hi hg hb hs) λD O H ⟨Y,ρ,s,r,en,h⟩=>by
  refine⟨Y,ρ,s,r,en,dc! h (λJ H1 ⟨Y1,s1,it,stp,ok,h1⟩=>?_)⟩;obtain⟨items,g⟩:=it;refine⟨WkF J! E D H1 Y1 iO! λi ρ s=>yL g g8! (ee! (fg d ρ s) (fb ρ' s')) (items.drop i) ρ s, ⟨iO!,.mk (.refl dz!) im! rfl g1! h1⟩,λi m O H w=>?_⟩;cases w with | @mk Y2 ρ2 s2 ag aX hm hil h2=>
  subst hm;by_cases bx:i<iO!
  ·right;rw[_bJ bx,yL]at h2;split at h2
   ·rename_i hG;obtain⟨go,yl⟩:=((ok H Y2 s2 ag hG i).1 items[i] (_b bx));refine⟨go,WkF J! E D H1 Y1 iO! (λi ρ s=>yL g g8! (ee! (fg d ρ s) (fb ρ' s')) (items.drop i) ρ s) (i+1) (iO!-(i+1)), λO' H' w=>⟨iO!-(i+1),by omega,w⟩,λx H' y=>?_⟩;obtain⟨Y3,aq,cA⟩:=yl x H' y;refine⟨Y3,ρ2,s2,items[i],aq.rep,aX.mono aq,cA,dc! (okR.bind (Dn:=FlD J!) (okR.rebase h2 aq)) (λO5 H5 ⟨Y5,s5,ρ5,bN,en5,h5⟩=>?_)⟩;refine⟨Y5,ρ5,s5,bN.rep,en5,h5.imp λfv H6 ⟨Y6,s6,fl,ck,cS,q6⟩=>?_⟩;have fk := a4! (ag.trans aq) ck;cases fl with
    | nx ρ'=> cases fv with
     | nx O'=>exact .mk fk cS rfl bx q6 | _=>exact bZ! cS
    | ct ρ'=> cases fv with
     | ct O'=>exact .mk fk cS rfl bx q6 | _=>exact bZ! cS
    | bk ρ'=> cases fv with
     | bk O'=>exact okR.here (b:=ni! O') q6 ck.rep cS | _=>exact bZ! cS
    | rt d=> cases fv with
     | rt v=>exact okR.here (Q:=zik D) q6 ck.rep cS | _=>exact bZ! cS
   ·exact h2.elim
  ·left;have e:i=iO!:=by omega
   subst e;rw[List.drop_length,yL]at h2;split at h2
   ·rename_i hG;exact⟨(ok H Y2 s2 ag hG _).2 al!,okR.here (b:=ni! O) h2 ag.rep aX⟩
   ·exact h2.elim
end
end Dd
namespace Zz
def Sit(b:Bool)(h:Heap)(it l:Addr)(k:Nat):g!:=match b with
 | true=>h.IsListIter it l k | false=>h.IsTupleIter it l k
def Sco(b:Bool)(h:Heap)(l:Addr)(xs:cz!):g!:=match b with
 | true=>h.IsList l xs | false=>h.IsTuple l xs
theorem Sit.to(x:Sit b h it l k)(e:∀o,cG! it->dw! it):Sit b h' it l k:=by cases b with
 | true=>obtain⟨o,ho,r⟩:=x;exact cr! (e _ ho) r | false=>obtain⟨o,ho,r⟩:=x;exact cr! (e _ ho) r
theorem Sco.to(x:Sco b h l xs)(e:∀o,cG! l->dw! l):Sco b h' l xs:=by cases b with
 | true=>obtain⟨o,ho,r⟩:=x;exact cr! (e _ ho) r | false=>obtain⟨o,ho,r⟩:=x;exact cr! (e _ ho) r
theorem Sit.lt(x:Sit b h it l k):it<jk!:=by cases b with
 | true=>obtain⟨o,ho,r⟩:=x;exact _r ho | false=>obtain⟨o,ho,r⟩:=x;exact _r ho
theorem Sit.ob(x:Sit b h it l k):∃o,cG! it/\∀v,ib!≠.cell v:=by cases b with
 | true=>obtain⟨o,ho,_,d⟩:=x;exact cr! ho (λv z=>by rw[d]at z;cases z) | false=>obtain⟨o,ho,_,d⟩:=x;exact cr! ho (λv z=>by rw[d]at z;cases z)
section
variable {P:Program}{w:World}{A:Around}{E:bX!}{s:Shared}
theorem zoP{it l:Addr}{k:Nat}{xs:cz!}{x:Value}{R:bX!}(h1:s.heap.IsTupleIter it l k)(h2:s.heap.IsTuple l xs)(e:E! xs k x) (q:∀h',h'.IsTupleIter it l (k+1)->Heap.SameBut it F! h'->R x {s with heap:=h'}):gh! P w A (si! it) R E s:=by
 obtain⟨o,ho,hc,hd⟩:=id h1;obtain⟨ol,ib,_,nl,ic⟩:=h2;refine _a (_af h1.typeIs _a2 (_aw _a2 h1.typeIs F.entry_tuple_iterator_next ?_ (F.args_tuple_iterator_next_1 _)));show fG! _ _ (field ko! 0 >>= _) _ _;refine _a (pT! ho hd ?_);refine _a (pT! ho hd (_a (_a3 ib ic ?_)));simp only[_V,e];exact _a (wpAny_setField ho hd (by simp) (_m (aC! x (_m (q _ ⟨_,Heap.get?_update_self _ ho (Obj.isFreed_of_fields (Obj.data_mapFields hd _)),a4! (Obj.cls_mapFields ..) hc,by rw[Obj.data_mapFields hd];rfl⟩ (_bM ..))))))
theorem zeM{it l:Addr} {k:Nat} {xs:cz!} {R:bX!} (hh:nq!) (h1:s.heap.IsTupleIter it l k) (h2:s.heap.IsTuple l xs) (e:xs[k]? = a!) (q:∀h' e,Heap.ExtBut it F! h'->(∃o,dw! e/\gd!=sn!)->E ei! {s with heap:=h'}):gh! P w A (si! it) R E s:=by
 obtain⟨o,ho,hc,hd⟩:=id h1;obtain⟨ol,ib,_,nl,ic⟩:=h2;refine _a (_af h1.typeIs _a2 (_aw _a2 h1.typeIs F.entry_tuple_iterator_next ?_ (F.args_tuple_iterator_next_1 _)));show fG! _ _ (field ko! 0 >>= _) _ _;refine _a (pT! ho hd (_a (pT! ho hd ?_)));refine _a (_a3 ib ic ?_);simp only[_V,e];refine _a (_cI (_a (wpAny_setField ho hd (by simp) (_a ?_))));refine _a (_aG ?_ (by size_fits));refine _a (wpAny_of_eq (by rfl) (_aG (_a (wpAny_handled ?_)) (by size_fits)));rw[hh];exact _a (_m (wpAny_throw (q _ _ (c7! ((_bM ..).extBut.push _) _) (b5! g2!))))
theorem nx{b:Bool}{it l:Addr}{k:Nat}{xs:cz!}{x:Value}{R:bX!}(h1:Sit b F! it l k)(h2:hT! b l xs)(e:E! xs k x) (q:∀h',Sit b h' it l (k+1)->Heap.SameBut it F! h'->R x {s with heap:=h'}):gh! P w A (si! it) R E s:=by cases b with
 | true=>exact wpAny_nextOf_list_item h1 h2 e q | false=>exact zoP h1 h2 e q
theorem zgb{b:Bool} {it l:Addr} {k:Nat} {xs:cz!} {R:bX!} (hh:nq!) (h1:Sit b F! it l k) (h2:hT! b l xs) (e:xs[k]? = a!) (q:∀h' e,Heap.ExtBut it F! h'->(∃o,dw! e/\gd!=sn!)->E ei! {s with heap:=h'}):gh! P w A (si! it) R E s:=by cases b with
 | true=>exact wpAny_nextOf_list_end hh h1 h2 e q | false=>exact zeM hh h1 h2 e q
theorem zF(hs:Heap.SameBut a h h') (n:b≠a)(e:cG! b):dw! b:=hs.extBut _ _ n e
theorem zmj{z TI TO i1 i2 l1 l2:Addr} {b1 b2:Bool} {k:Nat} {xs ys:cz!} {x y a b:Value} {Q:aS!->ev!} (D:ZipApart z TI TO i1 i2 l1 l2) (hz:IsZip F! z TI TO X!) (bO:ly! F! TI (w! i1) (w! i2)) (bV:ly! F! TO a b) (h1:Sit b1 F! i1 l1 k) (h2:Sit b2 F! i2 l2 k) (c1:hT! b1 l1 xs) (c2:hT! b2 l2 ys) (ex:E! xs k x) (ey:E! ys k y) (q:∀h',IsZip h' z TI TO (rawInt at!)->ly! h' TO x y->Sit b1 h' i1 l1 (k+1)->Sit b2 h' i2 l2 (k+1)->ly! h' at! x y->h'.objs.size=dO!-> (∀c o,c≠z->c≠TO->c≠i1->c≠i2->dm! c->dw! c)->Q (b! fV!) {s with heap:=h'}):gh! P w A (o6! (w! z)) Q E s:=by
 have hT:pa! (w! z) iC!:=b5! hz;unfold pyNext;refine _a (_dh (_af hT _cw (_aw _cw hT F.entry_zip_next ?_ (F.args_zip_next_1 _))));show wpAny _ _ (field (w! z) 2 >>= _) _ _ _;refine _a (jQ! hz ?_);refine _a (jQ! hz ?_);refine _a (_a3 bO rfl ?_);refine _a ?_;unfold Builtin.SmallTypes.ownedTupleIsFree;refine _a (jQ! hz (_m ?_));simp only[_v];refine _a (_cI ?_);refine _a (jQ! hz ?_);refine _a (_al hz (by simp) λg1 z1 s1=>?_);replace z1 := z1;refine _a ?_;refine _a (_a (_di ?_));refine _a (nx (h1.to (jO! s1 D.i1z e)) (c1.to (jO! s1 D.l1z e)) ex λg2 t2 s2=>_m ?_);have o2 := zF s2 D.TOi1 (zF s1 D.TOz bV);refine _a (_a3 o2 rfl ?_);refine _a (_co o2 λg3 o3 s3=>?_);replace o3 := o3;refine _a (sD! ?_);refine _a (_a (_di ?_));refine _a (nx (h2.to (jO! s3 D.TOi2.symm (zF s2 D.i12.symm (zF s1 D.i2z e)))) (c2.to (jO! s3 D.l2TO (zF s2 D.l2i1 (zF s1 D.l2z e)))) ey λg4 t4 s4=>_m ?_);have o4 := zF s4 D.TOi2 o3;refine _a (_a3 o4 rfl ?_);refine _a (_co o4 λg5 o5 s5=>?_);replace o5:ly! g5 TO x y:=o5;refine _a (sD! (_m ?_));refine _a (_a3 o5 rfl ?_);refine _a (_cO ?_);have sz:g5.objs.size=at!:=by rw[s5.1,s4.1,s3.1,s2.1,s1.1]
 have z5 := zF s5 D.TOz.symm (zF s4 D.i2z.symm (zF s3 D.TOz.symm (zF s2 D.i1z.symm z1)));have t5:Sit b1 g5 i1 l1 (k+1):=t2.to (jO! s5 D.TOi1.symm (zF s4 D.i12 (zF s3 D.TOi1.symm e)));have u5:Sit b2 g5 i2 l2 (k+1):=t4.to (jO! s5 D.TOi2.symm e);have zl := _r z5;refine _a ?_;have z6:IsZip (g5.push {cls:=dC!,data:=.seq #[x,y]}) z TI TO .ellipsis:=_g _ z5;refine _a (_al z6 (by simp) λg7 z7 s7=>?_);replace z7 := z7;refine _al z7 (by simp) λg8 z8 s8=>?_;replace z8 := z8;have up:∀c o,c≠z->g5.get? c=b! o->g8.get? c=b! o:=λc o n e=>zF s8 n (zF s7 n (_g _ e));have p8 := zF s8 (_cA zl) (zF s7 (_cA zl) g2!);have e8:g8.objs.size=g5.objs.size+1:=by rw[s8.1,s7.1,_aI]
 rw[sz]at z8 p8 e8;refine _m (aC! _ (_m ?_));show Q (b! (w! g5.objs.size)) _;rw[sz];exact q g8 z8 (up _ _ D.TOz o5) (t5.to λo e=>up _ o D.i1z e) (u5.to λo e=>up _ o D.i2z e) p8 e8 λc o n1 n2 n3 n4 e=>up c o n1 ((λc o n1 n2 n3 n4 e=>zF s5 n2 (zF s4 n4 (zF s3 n2 (zF s2 n3 (zF s1 n1 e))))) c o n1 n2 n3 n4 e)
theorem zqq{z TI TO i1 i2 l1 l2:Addr}{b1 b2:Bool}{k:Nat}{xs ys:cz!}{a b:Value}{Q:aS!->ev!}(hh:nq!)(D:ZipApart z TI TO i1 i2 l1 l2) (hz:IsZip F! z TI TO X!)(bO:ly! F! TI (w! i1) (w! i2))(bV:ly! F! TO a b) (h1:Sit b1 F! i1 l1 k)(h2:Sit b2 F! i2 l2 k)(c1:hT! b1 l1 xs)(c2:hT! b2 l2 ys)(en:xs[k]? = a!\/ys[k]? = a!) (q:∀h',(∀c o,c≠z->c≠TO->c≠i1->c≠i2->dm! c->dw! c)->Q a! {s with heap:=h'}):gh! P w A (o6! (w! z)) Q E s:=by
 have hT:pa! (w! z) iC!:=b5! hz;have fin:∀h' e,(∀c o,c≠z->c≠TO->c≠i1->c≠i2->dm! c->dw! c)->(∃o,dw! e/\gd!=sn!)-> gh! P w A (isInstance ei! sn! >>= λb=>aF! b (dS! a!) (throw ei!)) Q E ({s with heap:=h'}):=λh' e hk he=>by
  obtain⟨o,ho,hc⟩:=he;exact _a (wpAny_isInstance (cr! ho hc) isSubtype_stop (_m (q _ hk)))
 refine _a (_dh (_af hT _cw (_aw _cw hT F.entry_zip_next ?_ (F.args_zip_next_1 _))));show wpAny _ _ (field (w! z) 2 >>= _) _ _ _;refine _a (jQ! hz ?_);refine _a (jQ! hz (_a (_a3 bO rfl ?_)));refine _a ?_;refine _a (jQ! hz (_m ?_));refine _a (_cI ?_);refine _a (jQ! hz (_a (_al hz (by simp) λg1 z1 s1=>?_)));refine _a ?_;refine _a (_a (_di ?_));cases ex:xs[k]? with
 | none=>
  refine _a (zgb hh (h1.to (jO! s1 D.i1z e)) (c1.to (jO! s1 D.l1z e)) ex λg2 e s2 he=>?_);obtain⟨oe,dH,fm⟩:=he;have z2 := s2 _ _ D.i1z.symm z1;exact _al z2 (by simp) λg3 _ s3=>fin g3 e (λc o n1 _ n3 _ t=>zF s3 n1 (s2 _ _ n3 (zF s1 n1 t))) ⟨oe,zF s3 (λt=>by subst t;rw[z2]at dH;cases dH;simp at fm) dH,fm⟩ | some x=>
  refine _a (nx (h1.to (jO! s1 D.i1z e)) (c1.to (jO! s1 D.l1z e)) ex λg2 t2 s2=>_m ?_);have o2 := zF s2 D.TOi1 (zF s1 D.TOz bV);refine _a (_a3 o2 rfl ?_);refine _a (_co o2 λg3 o3 s3=>(_a (sD! ?_)));refine _a (_a (_di ?_));refine _a (zgb hh (h2.to (jO! s3 D.TOi2.symm (zF s2 D.i12.symm (zF s1 D.i2z e)))) (c2.to (jO! s3 D.l2TO (zF s2 D.l2i1 (zF s1 D.l2z e)))) (by rcases en with t | t;rw[ex]at t;cases t;exact t) λg4 e s4 he=>?_);obtain⟨oe,dH,fm⟩:=he;have z4:IsZip g4 z TI TO .ellipsis:=s4 _ _ D.i2z.symm (zF s3 D.TOz.symm (zF s2 D.i1z.symm z1));exact _al z4 (by simp) λg5 _ s5=>fin g5 e (λc o n1 n2 n3 n4 t=>zF s5 n1 (s4 _ _ n4 (zF s3 n2 (zF s2 n3 (zF s1 n1 t))))) ⟨oe,zF s5 (λt=>by subst t;rw[z4]at dH;cases dH;simp at fm) dH,fm⟩
end
noncomputable def itO(b:Bool)(l:Addr):Obj:=match b with
 | true=>{cls:=ar! "list_iterator",data:=eJ! #[ez!,bx! 0 0]} | false=>{cls:=ar! "tuple_iterator",data:=eJ! #[ez!,bx! 0 0]}
theorem zaC(e:eu! a (itO b l)):Sit b h a l 0:=by cases b with
 | true=>exact fg! _ e rfl | false=>exact fg! _ e rfl
theorem z5r(b:Bool)(l:Addr):(itO b l).isFreed=r!:=by cases b<;>rfl
section
variable {P:Program}{w:World}{A:Around}{E:bX!}{s:Shared}
theorem z8a(h:hT! b l xs) (q:Q fV! {s with heap:=mp! b l}):gh! P w A (pyIter ez!) Q E s:=by cases b with
 | true=>exact wpAny_pyIter_list h q | false=>exact wpAny_pyIter_tuple h q
end
noncomputable abbrev G1(b1:Bool)(h:Heap)(l1:Addr):Heap:=h.push (itO b1 l1)
noncomputable abbrev G2(b1 b2:Bool)(h:Heap)(l1 l2:Addr):Heap:=c7! (G1 b1 h l1) (itO b2 l2)
noncomputable abbrev G3(b1 b2:Bool)(h:Heap)(l1 l2:Addr):Heap:=c7! (G2 b1 b2 h l1 l2) ({cls:=dC!,data:=.seq #[w! jk!,w! (eb! (G1 b1 h l1))]})
noncomputable abbrev G4(b1 b2:Bool)(h:Heap)(l1 l2:Addr):Heap:=c7! (G3 b1 b2 h l1 l2) ({cls:=dC!,data:=.seq #[X!,X!]})
noncomputable abbrev G5(b1 b2:Bool)(h:Heap)(l1 l2:Addr):Heap:=c7! (G4 b1 b2 h l1 l2) ({cls:=ar! iC!,data:=eJ! #[X!,.bool r!,.bool r!,w! (eb! (G2 b1 b2 h l1 l2)),w! (eb! (G3 b1 b2 h l1 l2))]})
theorem zi2(b1 b2:Bool) (l1 l2:Addr) (xs ys:cz!): Meets (Builtin.«zip.__new__» (dG! [ar! iC!,w! l1,w! l2])) (λ_ R s=>hT! b1 l1 xs/\hT! b2 l2 ys/\R (l7! (w! (eb! (G4 b1 b2 F! l1 l2)))) {s with heap:=G5 b1 b2 F! l1 l2}):= rd! (by
  obtain⟨hp,g,d,tk,os⟩:=s;obtain⟨c1,c2,h⟩:=h;have bP:=sub_zip;have q1 := c1;have q2:Sco b2 (Shared.heap (eZ! (hp.push (itO b1 l1)) g d tk)) l2 ys:=c2.to λo e=>_g _ e;wp_walk using z8a q1,z8a q2;exact aC! _ h)
section
variable {P:Program}{w:World}{A:Around}{E:bX!}{s:Shared}
theorem zk2(c1:hT! b1 l1 xs) (c2:hT! b2 l2 ys) (h:∀h',IsZip h' (at!+4) (at!+2) (at!+3) X!->ly! h' (at!+2) fV! (w! dO!)-> ly! h' (at!+3) X! X!->Sit b1 h' at! l1 0->Sit b2 h' dO! l2 0->(∀c o,dm! c->dw! c)->Q (w! (at!+4)) {s with heap:=h'}): gh! P w A (call (ar! iC!) [w! l1,w! l2]) Q E s:=by
 refine callType_new F.called_zip (by decide) (F.typeCall_zip_2 _ _) (F.newCall_zip_2 _ _) (λobj=>F.args_object_init_3 obj _ _) F.entry_zip_new (zi2 b1 b2 l1 l2 xs ys) ⟨c1,c2,?_⟩;have z1:eb! (G1 b1 F! l1)=dO!:=_aI ..;have z2:eb! (G2 b1 b2 F! l1 l2)=at!+2:=by rw[_aI,z1]
 have z3:eb! (G3 b1 b2 F! l1 l2)=at!+3:=by rw[_aI,z2]
 have z4:eb! (G4 b1 b2 F! l1 l2)=at!+4:=by rw[_aI,z3]
 have up:∀{h:Heap} {o:Obj} {c:Addr} {u:Obj},eu! c u->e6! (h.push o) c u:=λe=>_g _ e;have g5:e6! (G5 b1 b2 F! l1 l2) (eb! (G4 b1 b2 F! l1 l2)) _:=g2!;have g4:e6! (G5 b1 b2 F! l1 l2) (eb! (G3 b1 b2 F! l1 l2)) _:=up g2!;have g3:e6! (G5 b1 b2 F! l1 l2) (eb! (G2 b1 b2 F! l1 l2)) _:=up (up g2!);have g2:e6! (G5 b1 b2 F! l1 l2) (eb! (G1 b1 F! l1)) (itO b2 l2):=up (up (up (_x _ (z5r b2 l2))));rw[z2,z3,z4]at g5;rw[z1,z2]at g3;rw[z3]at g4;rw[z1]at g2;rw[z4];exact⟨b5! g5,h _ g5 g3 g4 (zaC (up (up (up (up (_x _ (z5r b1 l1))))))) (zaC g2) λc o e=>up (up (up (up (up e))))⟩
end
end Zz
namespace L2
open Zz
def Sq(b:Bool)(K:W.Frag)(H:Hp)(a:Addr)(xs:aG!):g!:=match b with
 | true=>SqL K H a xs | false=>eG! K a xs
section
variable {X:Cx}{ae:de!}{O:St}{H:Hp}{s:Shared}{h':Heap}
theorem Inv.sq(I:K!)(h:Sq b X.K H a xs):∃af:List Value,xl xs af/\hT! b a fs!:=by cases b with
 | true=>obtain⟨af,r,p,_⟩:=I.list h;exact aV! af r p.isList | false=>obtain⟨af,r,p,_⟩:=lp! h;exact aV! af r p
theorem Inv.sq_inj(I:K!)(h:Sq b X.K H a xs)(h':Sq b X.K H a ys):xs=ys:=by cases b with
 | true=>exact I.list_inj h h' | false=>exact I.tuple_inj h h'
theorem Inv.turnedL{ch:an!}(I:K!)(k:bG! (b∉ch->dm! b->dw! b))(f:∀b∈ch,zbK X ae H b):lL! ({s with heap:=h',toks:=t'}):=by
 have eE:∀b u,cR! u->b∉ch:=λb u e z=>by rw[(f b z).1]at e;cases e
 refine I.step (cl! (ck! (f b hb).2.2.2.1 (f b hb).2.1 (f b hb).2.2.2.2.1 (f b hb).2.2.2.2.2)) (λb o _ _ hc e _=>k b o hc e) (λb o _ _ hc e _=>⟨o.slots,k b o hc e⟩) (λ_ _ _ _ n=>n) (λb o hc e=>⟨o,k b o hc e⟩) (λ_ _ e=>e) (λ_ _ _ e=>e) (λb ps e=>⟨#[],by rw[e];simp⟩) (λm hm=>?_) (λb u e=>?_) jn!
 ·obtain⟨o,es,ep,ho,r⟩:=hm;exact⟨o,es,ep,k _ o (λz=>(f _ z).2.1 rfl) ho,r⟩
 ·refine (nU! b u e).stay (λc v hc q=>k c v ?_ q) (λ_ q=>q) λ_ _ q=>q;rcases hc with z | z;·rw[z];exact eE b u e
  ·exact eE c _ z
end
noncomputable def Itz(K:W.Frag)(b1 b2:Bool)(l1 l2:Addr):It:= ⟨λi H=>∃xs ys x y,Sq b1 K H l1 xs/\Sq b2 K H l2 ys/\aj! xs x/\aj! ys y, λi H v H'=>∃T x y,H T=a!/\v=w! T/\H'=hS! T (p! [x,y])/\(∀xs,Sq b1 K H l1 xs->aj! xs x)/\∀ys,Sq b2 K H l2 ys->aj! ys y, λi H=>∃xs ys,Sq b1 K H l1 xs/\Sq b2 K H l2 ys/\(x!<=i\/c6!<=i)⟩
theorem zjX{K:W.Frag} {z TI TO i1 i2 l1 l2:Addr}(D:ZipApart z TI TO i1 i2 l1 l2): zji P w K (jL! br tp) (Itz K b1 b2 l1 l2) [z,TI,TO,i1,i2] z (λi h=>IsZip h z TI TO X!/\ly! h TI (w! i1) (w! i2)/\(∃a b,ly! h TO a b)/\Sit b1 h i1 l1 i/\Sit b2 h i2 l2 i) where
 mem:=by simp
 obj:=λi h ⟨hz,bO,⟨a,b,bV⟩,h1,h2⟩ c hc=>by
  rcases (by simpa using hc) with rfl | rfl | rfl | rfl | rfl;·exact bM! hz (λv e=>by simp at e)
  ·exact bM! bO (λv e=>by simp at e)
  ·exact bM! bV (λv e=>by simp at e)
  ·exact h1.ob
  ·exact h2.ob
 keep:=λi h h' ⟨hz,bO,⟨a,b,bV⟩,h1,h2⟩ k=>⟨k z (by simp) _ hz,k TI (by simp) _ bO,⟨a,b,k TO (by simp) _ bV⟩,h1.to λo e=>k i1 (by simp) o e,h2.to λo e=>k i2 (by simp) o e⟩;item:=by
  intro X hP hw hK hc i ae s O H E I hf ⟨hz,bO,⟨a,b,bV⟩,h1,h2⟩ ⟨xs,ys,x,y,qx,qy,ex,ey⟩;subst hP hw hK;obtain⟨ix,rx,cx⟩:=I.sq qx;obtain⟨iy,ry,cy⟩:=I.sq qy;obtain⟨u,hu,ru⟩:=rx.get ex;obtain⟨v,hv,rv⟩:=ry.get ey;refine zmj D hz bO bV h1 h2 cx cy (by simpa using hu) (by simpa using hv) λg a1 a2 a3 a4 a5 a6 hk=>aC! _ ?_;have I1 := I.turnedL (t':=s.toks) (λc o n e=>hk c o (λt=>n (by simp[t])) (λt=>n (by simp[t])) (λt=>n (by simp[t])) (λt=>n (by simp[t])) e) λc hc=>hf c ((λc hc=>by rcases (by simpa using hc) with rfl | rfl | rfl | rfl<;>simp:∀c∈[z,TO,i1,i2],c∈[z,TI,TO,i1,i2]) c hc);refine wpAny_letOwnedTupleGo_zip a1 λg2 z2 s2=>?_;obtain⟨f0,f1,f2,f3,f4,f5⟩:=hf z (by simp);have new := I.fpOk al! (mq! _);have ne:∀{c:Addr}{o:Obj},dm! c->c≠at!:=λe=>_D c5!;refine⟨fV!,hS! at! (p! [x,y]),(I1.turned (t':=s.toks) (λc o n e=>zF s2 n e) f0 f1 f3 f4 f5).track new ⟨?_,[u,v],eI! ru (eI! rv cu!),⟨_,(zF s2 (ne hz).symm a5),rfl,rfl,_,rfl⟩⟩,rfl,⟨_,x,y,new.1,rfl,rfl,λzs qz=>?_,λzs qz=>?_⟩,⟨z2,?_,bM! _ (zF s2 D.TOz a2),a3.to (jO! s2 D.i1z e),a4.to (jO! s2 D.i2z e)⟩,λc hc=>?_⟩;·show 2<=aW!;decide
  ·rw[I.sq_inj qz qx];exact ex
  ·rw[I.sq_inj qz qy];exact ey
  ·exact zF s2 D.TIz (hk TI _ D.TIz D.TITO D.TIi1 D.TIi2 bO)
  ·rw[zJ (by
    rcases (by simpa using hc) with rfl | rfl | rfl | rfl | rfl;·exact ne hz
    ·exact ne bO
    ·exact ne bV
    ·exact _D h1.lt
    ·exact _D h2.lt)];exact (hf c hc).1
 done:=by
  intro X hP hw hK hc i ae s O H E I hf ⟨hz,bO,⟨a,b,bV⟩,h1,h2⟩ ⟨xs,ys,qx,qy,hl⟩;subst hP hw hK;obtain⟨ix,rx,cx⟩:=I.sq qx;obtain⟨iy,ry,cy⟩:=I.sq qy;have lx:=rx.length;have ly:=ry.length;refine zqq hg! D hz bO bV h1 h2 cx cy ?_ λg hk=>iq! (I.turnedL (ch:=[z,TO,i1,i2]) (λc o n e=>hk c o (λt=>n (by simp[t])) (λt=>n (by simp[t])) (λt=>n (by simp[t])) (λt=>n (by simp[t])) e) λc hc=>hf c (by rcases (by simpa using hc) with rfl | rfl | rfl | rfl<;>simp))
  ·rcases hl with hl | hl;·exact y! (by simp;lia)
   ·exact Q! (by simp;lia)
 self:=λ_ _ _ _ _ st h=>wpAny_pyIter_zip st.1 h
theorem zqI{br:aE!}{kt:Nat}{tp:Pos} {p pos:Pos}(hg:ix! iC!)(hm:dF! iC!)(ha:PA X [a,b] ta)(hs:A! (aw! [a,b]=dY! a::aw! [b]))(au:d4! [b] (·.1)): PI X (jL! br tp) (dl! iC! p [a,b]) (λO H R=>ta O H λvs H1=>∃l1 l2 b1 b2,vs=[w! l1,w! l2]/\(∃xs,Sq b1 X.K H1 l1 xs)/\(∃ys,Sq b2 X.K H1 l2 ys)/\R (Itz X.K b1 b2 l1 l2) H1):=by
 refine λae s O H R I h=>_aq (z1z I hg hm (by rfl) (_aa (thn (ha pos ae s O H _ I h) λus s1 ⟨vs,H1,I1,r1,q1⟩=>?_) hs au) (by decide) (by decide));obtain⟨l1,l2,b1,b2,rfl,⟨xs,qx⟩,⟨ys,qy⟩,q⟩:=q1;cases r1 with | cons r1 r2=> cases r2 with | cons r2 r3=>
   cases r3;cases r1;cases r2;obtain⟨ix,rx,cx⟩:=I1.sq qx;obtain⟨iy,ry,cy⟩:=I1.sq qy;have mW:l1<iK!:=by cases b1 with
    | true=>obtain⟨o,e,_⟩:=cx;exact c5! | false=>obtain⟨o,e,_⟩:=cx;exact c5!
   refine zk2 cx cy λg hz bO bV h1 h2 hk=>(wpAny_pyIter_zip hz ?_);refine⟨_,_,_,_,H1,rfl,n1! hk,zjX (by
    have e1:∀k:Nat,l1≠iK!+k:=λk=>_D (_j mW (_cf _ _));have e2:∀k:Nat,l2≠iK!+k:=λk=>_D (_j (by cases b2 with
    | true=>obtain⟨o,e,_⟩:=cy;exact c5! | false=>obtain⟨o,e,_⟩:=cy;exact c5!) (_cf _ _));have nk:∀(m j k:Nat),j≠k->m+j≠m+k:=λm j k h z=>h (Nat.add_left_cancel z);exact⟨nk _ 2 4 (by decide),nk _ 3 4 (by decide),nk _ 0 4 (by decide),nk _ 1 4 (by decide),nk _ 2 3 (by decide),nk _ 2 0 (by decide),nk _ 2 1 (by decide),nk _ 3 0 (by decide),nk _ 3 1 (by decide),nk _ 0 1 (by decide),e1 4,e1 3,e1 0,e1 1,e2 4,e2 3,e2 0,e2 1⟩),⟨hz,bO,bM! _ bV,h1,h2⟩,λc hc=>?_,q⟩;have cB:iK!<=c:=by rcases (by simpa using hc) with rfl | rfl | rfl | rfl | rfl<;>first | exact al! | exact _cf _ _
   exact rN! cB cB
end L2
namespace Zz
section
variable {P:Program}{w:World}{A:Around}{E:bX!}{s:Shared}
theorem z9U(hh:nq!)(h:hT! b l af) (k:∀s2:Shared,s2={s with heap:=mp! b l}->∀St:Nat->Heap->Prop,Walks P w A at! [at!,l] [at!] af.size (λi v=>aj! af v) St->St 0 s2.heap-> (∀c∈[at!,l],c<s2.heap.objs.size)->(∀h':Heap,(∀c o,c∉[at!]->s2.heap.get? c=b! o->dw! c)->∀c o,dm! c->dw! c)->Q fV! s2):gh! P w A (pyIter ez!) Q E s:=by
 have lt:l<at!:=by cases b with
  | true=>obtain⟨o,e,_⟩:=h;exact c5! | false=>obtain⟨o,e,_⟩:=h;exact c5!
 have ne := _D lt;have bd:∀c∈[at!,l],c<eb! (mp! b l):=λc hc=>by
  rw[_aI];rcases (by simpa using hc) with rfl | rfl;·exact _ce _
  ·exact _aW lt
 have bz:∀h':Heap,(∀c o,c∉[at!]->e6! (mp! b l) c o->dw! c)->∀c o,dm! c->dw! c:=λh' hk c o e=> hk c o (λz=>kT! ((show c=at! from by simpa using z) ▸ c5!) _) (_g _ e);refine z8a h ?_;have g:e6! (mp! b l) at! (itO b l):=_x _ (z5r b l);cases b with
 | true=>exact k _ rfl _ (Walks.list hh _ l ne af) ⟨zaC g,Sco.to h λo e=>_g _ e⟩ bd bz | false=>exact k _ rfl _ (Walks.tuple hh _ l ne af) ⟨zaC g,Sco.to h λo e=>_g _ e⟩ bd bz
end
end Zz
namespace L2
open Zz
noncomputable def maxL:i!->Int
 | []=>0 | x::xs=>kS! max
noncomputable def minL:i!->Int
 | []=>0 | x::xs=>kS! min
theorem qY:∀(xs:List Int)(x:Int),x<=kS! max/\(∀y∈xs,y<=kS! max)/\(kS! max=x\/kS! max∈xs)
 | [],x=>⟨_c4 _,by simp,cZ!⟩ | y::ys,x=>by
  obtain⟨h1,h2,h3⟩:=qY ys (max x y);refine⟨by simp only[_a8];lia,λz hz=>?_,?_⟩
  ·simp only[_a8];rcases eK! hz with rfl | hz;·lia
   ·exact h2 z hz
  ·simp only[_a8];rcases h3 with h3 | h3
   ·rw[h3];rcases Int.le_total x y with h | h;·exact Q! (by rw[Int.max_eq_right h];simp)
    ·exact y! (Int.max_eq_left h)
   ·exact Q! (_K _ h3)
theorem qZ:∀(xs:List Int)(x:Int),kS! min<=x/\(∀y∈xs,kS! min<=y)/\(kS! min=x\/kS! min∈xs)
 | [],x=>⟨_c4 _,by simp,cZ!⟩ | y::ys,x=>by
  obtain⟨h1,h2,h3⟩:=qZ ys (min x y);refine⟨by simp only[_a8];lia,λz hz=>?_,?_⟩
  ·simp only[_a8];rcases eK! hz with rfl | hz;·lia
   ·exact h2 z hz
  ·simp only[_a8];rcases h3 with h3 | h3
   ·rw[h3];rcases Int.le_total x y with h | h;·exact y! (Int.min_eq_left h)
    ·exact Q! (by rw[Int.min_eq_right h];simp)
   ·exact Q! (_K _ h3)
theorem maxL_ge: ∀y∈xs,y<=jY! xs:=by cases xs with
 | nil=>decide | cons x xs=>intro y hy;rcases eK! hy with rfl | hy;exact (qY xs y).1;exact (qY xs x).2.1 y hy
theorem maxL_mem(h:a3! xs):jY! xs∈xs:=by cases xs with
 | nil=>exact fe! h | cons x xs=>rcases (qY xs x).2.2 with e | e;exact (show kS! max∈x::xs by rw[e];simp);exact _K _ e
theorem minL_le: ∀y∈xs,minL xs<=y:=by cases xs with
 | nil=>decide | cons x xs=>intro y hy;rcases eK! hy with rfl | hy;exact (qZ xs y).1;exact (qZ xs x).2.1 y hy
theorem minL_mem(h:a3! xs):minL xs∈xs:=by cases xs with
 | nil=>exact fe! h | cons x xs=>rcases (qZ xs x).2.2 with e | e;exact (show kS! min∈x::xs by rw[e];simp);exact _K _ e
section
variable {X:Cx}
theorem z7f{ns:i!} (r:xl hQ! af) (e:aj! fs! v):∃t,v=b7! (iY! i)/\i<eN!:=by
 have e':aj! af v:=by simpa using e
 have hl:=r.length;have hi:i<eN!:=by
  have:=cM! e';simp at hl;lia
 obtain⟨u,hu,ru⟩:=r.get (i:=i) (x:=V.int ns[i]) (by simp[hi]);rw[e']at hu;cases hu;obtain⟨t,rfl⟩:=ru;exact⟨t,by simp[hi],hi⟩
theorem getD_in{ns:i!} (h:i<eN!):iY! i∈ns:=by
 rw[List.getD,_b h];exact _G _
theorem zhW(hc:b2!):l2! X nC! (∃b p ns,xs=[b6!]/\Sq b X.K H p hQ!/\a3! ns/\Q (d! nx!) H):=by
 intro ae s O H xs us Q I r h;obtain⟨b,p,ns,rfl,hq,dj,q⟩:=h;obtain⟨u,rfl,ru⟩:=k0!;cases ru;obtain⟨af,rv,co⟩:=I.sq hq;have hl:jW!=eN!:=by have:=rv.length;simp at this;lia
 refine call_max_walk (st! hg! co ?_);subst e2;refine⟨_,_,_,_,_,_,_,rfl,W,st,bd,by simpa[hl] using (_bN.mpr dj),CmpOf.ints_gt (λi=>iY! i) (λi v e=>let ⟨t,e1,_⟩:=z7f rv e;as! t e1),λv h' tk e hk=>?_⟩;obtain⟨t,e1,lt⟩:=z7f rv e;obtain⟨h1,h2⟩:=argBest_gt (λi=>iY! i) (iL!-1);rw[e1,(show iY! (argBest (λi j=>bw! (iY! i > iY! j)) (iL!-1))=nx! from by
  refine Int.le_antisymm (ob! _ (getD_in lt)) ?_
  ·obtain⟨j,hj,ej⟩:=ge! (kE! dj);have:=h2 j (by simp[hl];lia);simp only[List.getD,_b hj,ej]at this;exact this)];exact⟨d! nx!,H,mf! (bz h' hk),co! t,q⟩
theorem zfX(hc:b2!):l2! X nD! (∃b p ns,xs=[b6!]/\Sq b X.K H p hQ!/\a3! ns/\Q (d! (minL ns)) H):=by
 intro ae s O H xs us Q I r h;obtain⟨b,p,ns,rfl,hq,dj,q⟩:=h;obtain⟨u,rfl,ru⟩:=k0!;cases ru;obtain⟨af,rv,co⟩:=I.sq hq;have hl:jW!=eN!:=by have:=rv.length;simp at this;lia
 refine call_min_walk (st! hg! co ?_);subst e2;refine⟨_,_,_,_,_,_,_,rfl,W,st,bd,by simpa[hl] using (_bN.mpr dj),CmpOf.ints_lt (λi=>iY! i) (λi v e=>let ⟨t,e1,_⟩:=z7f rv e;as! t e1),λv h' tk e hk=>?_⟩;obtain⟨t,e1,lt⟩:=z7f rv e;obtain⟨h1,h2⟩:=argBest_lt (λi=>iY! i) (iL!-1);rw[e1,(show iY! (argBest (λi j=>bw! (iY! i<iY! j)) (iL!-1))=minL ns from by
  refine Int.le_antisymm ?_ (minL_le _ (getD_in lt))
  ·obtain⟨j,hj,ej⟩:=ge! (rD! dj);have:=h2 j (by simp[hl];lia);simp only[List.getD,_b hj,ej]at this;exact this)];exact⟨d! (minL ns),H,mf! (bz h' hk),co! t,q⟩
theorem all_range{bs:d9! cb!}:(mb! qv!).all (λi=>bs.getD i r!)=bs.all id:=by
 rw[Bool.eq_iff_iff];simp only[_T,_aN,id];constructor
 ·intro h x hx;obtain⟨j,hj,ej⟩:=oV!;simpa[hj,ej] using (h j hj)
 ·intro h i hi;simp only[List.getD,_b hi,_aD];exact h _ (_G _)
theorem zgM(hc:b2!):l2! X jh! (∃(b:Bool) (p:Addr) (bs:List Bool),xs=[b6!]/\Sq b X.K H p (bs.map V.bl)/\Q (.bl (bs.all id)) H):=by
 intro ae s O H xs us Q I r h;obtain⟨b,p,bs,rfl,hq,q⟩:=h;obtain⟨u,rfl,ru⟩:=k0!;cases ru;obtain⟨af,rv,co⟩:=I.sq hq;have hl:jW!=qv!:=by have:=rv.length;simp at this;lia
 refine call_all_walk (st! hg! co ?_);subst e2;refine⟨_,_,_,_,_,_,λi=>bs.getD i r!,rfl,W,st,λi v s3 Q3 E3 e q3=>?_,λh' tk hk=>?_⟩
 ·have e':aj! af v:=by simpa using e
  have hi:i<qv!:=by have:=cM! e';lia
  obtain⟨u,hu,ru⟩:=rv.get (i:=i) (x:=V.bl bs[i]) (by simp[hi]);rw[e']at hu;cases hu;cases ru;have q3:Q3 (bs.getD i r!) s3:=q3;rw[(show bs.getD i r!=bs[i] from by simp[List.getD,hi])]at q3;exact _aV q3
 ·rw[(show iL!=qv! from by exact hl ..),all_range];exact bn! (.bl (bs.all id)) H (mf! (bz h' hk)) q
end
end L2
namespace L2
theorem zcO: l2! X gF! (∃x t T b,xs=[x,.ty T]/\zbX X.K H x t/\mY! X.K t kn!=b! b/\Q (.bl b) H):=by
 intro ae s O H xs us Q I r h;obtain⟨x,t,T,b,rfl,ht,hk,q⟩:=h;obtain⟨u,v,rfl,ru,rv⟩:=vals2 r;cases rv;exact zgy I ru ht hk λtk=>bn! (.bl b) H it! q
end L2
namespace Dd
open L2
noncomputable def tyD:D->bm! String
 | .non=>b! "NoneType" | .bl _=>b! ia! | .int _=>b! eo! | .str _=>b! gc! | .tup _=>b! cV! | .lst _=>b! ea! | .loc _=>b! ea! | .dct=>b! nB! | _=>none
noncomputable def isT(T t:String):Bool:=t==T||(T==eo!&&t==ia!)
noncomputable def gIs(T:String):D->bl!:=λd s=>match tyD d with | some t=>bz! (isT T t) | none=>.no
theorem zd1{K:W.Frag} (h:t∈["NoneType",ia!,eo!,gc!,cV!,ea!,nB!])(T:String)(hT:T∈[eo!,ia!,gc!,cV!,ea!]):mY! K (ar! t) kn!=b! (isT T t):=by rcases (by simpa using h) with rfl | rfl | rfl | rfl | rfl | rfl | rfl<;>rcases (by simpa using hT) with rfl | rfl | rfl | rfl | rfl<;>kernel_rfl
theorem zlh(r:d7!)(dn:fI!)(e:tyD d=b! t):zbX nf! H v (ar! t)/\t∈["NoneType",ia!,eo!,gc!,cV!,ea!,nB!]:=by cases d with
 | non=>subst dn;cases e;exact⟨aJ!,by decide⟩ | bl b=>cases kS dn;cases e;exact⟨.bl b,by decide⟩ | int b=>cases yp dn;cases e;exact⟨e0!,by decide⟩ | str b=>cases z08 dn;cases e;exact⟨aI! b,by decide⟩ | tup b=>
  cases e;obtain⟨a,vs,rfl,h1,_⟩:=dn;exact⟨p! h1,by decide⟩ | lst b=>
  cases e;obtain⟨a,o,vs,rfl,h1,_⟩:=dn;exact⟨.frz h1,by decide⟩ | loc l=>
  cases e;obtain⟨a,rfl,h1,vs,h2⟩:=dn;exact⟨ad! h2,by decide⟩ | dct=>
  cases e;obtain⟨a,rfl,h1⟩:=dn;exact⟨.dK h1,by decide⟩ | _=>cases e
section
variable {X:Cx}{E:XK}{e a b c tg:Expr}{es:aE!}{pos:Pos}{CX:CXT}
noncomputable def eIs(T:String)(f:FE):FE:=eO! (d5! (gIs T d s1))
theorem zaE{p p2:Pos} (hT:T∈[eo!,ia!,gc!,cV!,ea!])(hv:kP! tn kn!)(hg:ix! gF!)(hm:dF! gF!)(cN:ix! tn)(cn:dF! tn)(he:fp! f) (hn:j5! (lT! tn))(hd:ce! (tn==cH!)) (hs:A! (aw! [e,fF! tn]=dQ!::aw! [fF! tn]))(au:d4! [fF! tn] (·.1)):V! (dl! gF! p [e,fF! tn]) (eIs T f):= yk (z2O zcO hg hm (by decide +kernel) (wz he (wz (z9n cN cn hv (show ww (.ty T) kn! from rfl) hn hd) z0y) hs) (by decide) (by decide) hs au) λO H Q ⟨Y,ρ,s,r,en,h⟩=>by
  refine yJ (k:=kD! (gIs T d s1)) r en h _ λv H1 Y1 s1 d r1 av dn stp h1=>?_;unfold gIs at h1;split at h1
  ·rename_i t et;obtain⟨q1,q2⟩:=zlh r1 dn et;exact⟨v,ar! t,T,isT T t,rfl,q1,zd1 q2 T hT,n8! h1 r1 wv⟩
  ·exact h1.elim
noncomputable def zkD:v!->bl!
 | [.int i],s=>t! (am! (i<0) (-i) i) | _,_=>.no
theorem ztH:∃r,jA! X "abs" r/\z1P X E r zkD:=j7! zj6 (by
 unfold zkD at h;split at h
 ·rename_i i;obtain⟨v,rfl,dn⟩:=ld!;cases yp dn;exact aC! i (eX! yA)
 ·exact h.elim)
noncomputable def intsOf:v!->bm! i!
 | []=>b! [] | .int i::r=>(qw! r).map (i::·) | _=>none
noncomputable def bools:v!->bm! (d9! cb!)
 | []=>b! [] | .bl i::r=>(oc! r).map (i::·) | _=>none
theorem z07:∀{xs:List D}{ns:List Int},qw! xs=b! ns->xs=il!
 | [],ns,h=>by cases h;rfl | .int i::r,ns,h=>by
  obtain⟨ms,h1,rfl⟩:=qx! h;rw[z07 h1];rfl
theorem vW(ns:i!):qw! il!=b! ns:=by induction ns with
 | nil=>rfl | cons n ns ih=>show (qw! _).map (n::·)=_;rw[ih];rfl
theorem z5b:∀{xs:List D}{ns:List Bool},oc! xs=b! ns->xs=pb! D.bl
 | [],ns,h=>by cases h;rfl | .bl i::r,ns,h=>by
  obtain⟨ms,h1,rfl⟩:=qx! h;rw[z5b h1];rfl
theorem zap(ns:d9! cb!):oc! (pb! D.bl)=b! ns:=by induction ns with
 | nil=>rfl | cons n ns ih=>show (oc! _).map (n::·)=_;rw[ih];rfl
theorem z09: ∀{ns:List Int}{vs:List V},pP! il!->vs=hQ!
 | [],vs,h=>by exact h | n::ns,vs,h=>by
  obtain⟨v,r,rfl,h1,h2⟩:=h;cases yp h1;rw[z09 h2];rfl
theorem z53: ∀{ns:List Bool}{vs:List V},pP! (pb! D.bl)->vs=pb! V.bl
 | [],vs,h=>by exact h | n::ns,vs,h=>by
  obtain⟨v,r,rfl,h1,h2⟩:=h;cases kS h1;rw[z53 h2];rfl
noncomputable def vy:v!->bl!
 | [d],s=>match B! (zY s d) intsOf with | some (n::ns)=>t! (jY! (n::ns)) | _=>.no
 | _,_=>.no
noncomputable def z5K:v!->bl!
 | [d],s=>match B! (zY s d) intsOf with | some (n::ns)=>t! (minL (n::ns)) | _=>.no
 | _,_=>.no
noncomputable def zfs:v!->bl!
 | [d],s=>match B! (zY s d) bools with | some ns=>bz! (ns.all id) | none=>.no
 | _,_=>.no
theorem zdz{K:W.Frag} {a:Addr} (h:SqL K H a vs\/eG! K a vs):∃b,Sq b K H a vs:=h.elim (λh=>as! c! h) λh=>as! r! h
theorem z3V(hc:b2!):∃r,jA! X nC! r/\z1P X E r vy:=j7! (zhW hc) (by
 unfold vy at h;split at h
 ·split at h
  ·rename_i n ns e;obtain⟨xs,e1,e2⟩:=_be.mp e;have:=z07 e2;subst this;obtain⟨v,rfl,dn⟩:=ld!;obtain⟨a,ws,rfl,q1,q2⟩:=qW r e1 dn;cases z09 q2;obtain⟨b,q⟩:=zdz q1;exact⟨b,a,n::ns,rfl,q,by simp,eX! yA⟩
  ·exact h.elim
 ·exact h.elim)
theorem zkN(hc:b2!):∃r,jA! X nD! r/\z1P X E r z5K:=j7! (zfX hc) (by
 unfold z5K at h;split at h
 ·split at h
  ·rename_i n ns e;obtain⟨xs,e1,e2⟩:=_be.mp e;have:=z07 e2;subst this;obtain⟨v,rfl,dn⟩:=ld!;obtain⟨a,ws,rfl,q1,q2⟩:=qW r e1 dn;cases z09 q2;obtain⟨b,q⟩:=zdz q1;exact⟨b,a,n::ns,rfl,q,by simp,eX! yA⟩
  ·exact h.elim
 ·exact h.elim)
theorem zjs(hc:b2!):∃r,jA! X jh! r/\z1P X E r zfs:=j7! (zgM hc) (by
 unfold zfs at h;split at h
 ·split at h
  ·rename_i ns e;obtain⟨xs,e1,e2⟩:=_be.mp e;have:=z5b e2;subst this;obtain⟨v,rfl,dn⟩:=ld!;obtain⟨a,ws,rfl,q1,q2⟩:=qW r e1 dn;cases z53 q2;obtain⟨b,q⟩:=zdz q1;exact⟨b,a,ns,rfl,q,eX! wv⟩
  ·exact h.elim
 ·exact h.elim)
noncomputable def z42:v!->v!->v!
 | x::xs,y::ys=>p! [x,y]::z42 xs ys | _,_=>[]
theorem z6O:∀(xs ys:List D),q! (z42 xs ys)=min x! c6!
 | [],ys=>by rfl | x::xs,[]=>by rfl | x::xs,y::ys=>by rw[z42,_h,_h,_h,z6O xs ys,Nat.add_min_add_right]
theorem zfA:∀{xs ys:List D}{i:Nat}{d:D},aj! (z42 xs ys) d->∃x y,aj! xs x/\aj! ys y/\d=p! [x,y]
 | [],ys,i,d,h=>by cases h | x::xs,[],i,d,h=>by cases h | x::xs,y::ys,0,d,h=>by simp[z42]at h;exact⟨x,y,by rfl,by rfl,h.symm⟩ | x::xs,y::ys,i+1,d,h=>by
  simp only[z42,_d]at h;obtain⟨a,b,h1,h2,h3⟩:=zfA h;exact⟨a,b,by exact h1,by exact h2,h3⟩
noncomputable def z8m(s:Sto):D->bm! (v!×gm! Nat v!)
 | .tup xs=>b! (xs,[]) | .lst xs=>b! (xs,[]) | .loc l=>(s[l]?).map λxs=>(xs,[(l,xs)]) | _=>none
theorem zcw(r:d7!)(h:z8m s d=b! (xs,g))(dn:fI!):okG g [] s/\∃(b:Bool)(a:Addr),v=ac!/\ ∀H2 Y2 s2,vD mg H Y H2 Y2 s2->okG g [] s2->∃ws,Sq b nf! H2 a ws/\fZ! H2 Y2 xs ws:=by cases d with
 | tup ys=>
  cases h;obtain⟨a,vs,rfl,q1,q2⟩:=kZ (K:=mg.K) dn;refine bn! (by intro p hp;cases hp) r! a (λH2 Y2 s2 stp _=>?_);obtain⟨a',ws,e,q3,q4⟩:=kZ (rC! stp);cases e;exact aV! ws q3 q4 | lst ys=>
  cases h;obtain⟨a,vs,rfl,q1,q2⟩:=yn r rfl dn;refine bn! (by intro p hp;cases hp) c! a (λH2 Y2 s2 stp _=>?_);obtain⟨a',ws,e,q3,q4⟩:=yn dz! rfl (rC! stp);cases e;exact⟨ws,y! q3,q4⟩ | loc l=>
  simp only[z8m,_ai]at h;obtain⟨ys,ey,e2⟩:=h;cases e2;obtain⟨a,vs,rfl,q1,q2⟩:=yn (d:=dK!) r ey dn;refine bn! (bq! (by
   have:p=(l,xs):=by simpa using hp
   subst this;exact ey)) c! a (λH2 Y2 s2 stp hg=>?_);obtain⟨a',ws,e,q3,q4⟩:=yn (d:=dK!) stp.rep (hg (l,xs) (by simp)) (rC! stp);cases e;exact⟨ws,y! q3,q4⟩ | _=>cases h
noncomputable def z4W(f:FA):FI:=b0! aM! (iN! (match ds with
 | [x,y]=>match z8m s1 x,z8m s1 y with
  | some p,some q=>M! (z42 p.1 q.1,p.2++q.2) | _,_=>.no
 | _=>.no))
theorem z7n{p tp:Pos}{br:aE!}{kt:Nat} (hg:ix! iC!)(hm:dF! iC!)(ha:RA X E [a,b] f)(hs:A! (aw! [a,b]=dY! a::aw! [b]))(au:d4! [b] (·.1)): RI X E (jL! br tp) (dl! iC! p [a,b]) (z4W f):= z7Y (zqI hg hm ha hs au) λO H Q ⟨Y,ρ,s,r,en,h⟩=>by
  refine⟨Y,ρ,s,r,en,dc! h (λvs H1 ⟨Y1,s1,ds,stp,dn,h1⟩=>?_)⟩;split at h1
  ·split at h1
   ·rename_i p q ex ey;obtain⟨v,v',rfl,d1,d2⟩:=za1 dn;obtain⟨ie,b1,a1,rfl,k1⟩:=zcw dz! ex d1;obtain⟨mX,b2,a2,rfl,k2⟩:=zcw dz! ey d2;obtain⟨w1,q1,_⟩:=k1 H1 Y1 s1 (.refl dz!) ie;obtain⟨w2,q2,_⟩:=k2 H1 Y1 s1 (.refl dz!) mX;refine⟨a1,a2,b1,b2,rfl,as! w1 q1,as! w2 q2,oB! (λH2 Y2 s2 ag og i=>?_)⟩;have h3 := bq! (og p (_ba _ hp));have h4 := bq! (og p (_O _ hp));refine⟨iM! ?_,λhl=>?_⟩
    ·obtain⟨x,y,e1,e2,rfl⟩:=zfA hd;obtain⟨w1,q1,n1⟩:=k1 H2 Y2 s2 ag h3;obtain⟨w2,q2,n2⟩:=k2 H2 Y2 s2 ag h4;obtain⟨u1,g1,m1⟩:=n1.get e1;obtain⟨u2,g2,m2⟩:=n2.get e2;refine⟨⟨w1,w2,u1,u2,q1,q2,g1,g2⟩,λz H' ⟨T,p,q,hT,ez,eH,hp,hq⟩=>?_⟩;subst ez eH;have e3:=hp w1 q1;have e4:=hq w2 q2;rw[g1]at e3;rw[g2]at e4;cases e3;cases e4;have cD:=vD.lay (o:=p! [u1,u2]) ag.rep hT (by intro _ z;cases z);exact⟨Y2,cD,gR! T [u1,u2] yu ((pc! m1 (yj.one m2)).mono cD)⟩
    ·obtain⟨w1,q1,n1⟩:=k1 H2 Y2 s2 ag h3;obtain⟨w2,q2,n2⟩:=k2 H2 Y2 s2 ag h4;refine⟨w1,w2,q1,q2,?_⟩;rw[n1.length,n2.length];simp only[z6O]at hl;omega
   ·exact h1.elim
  ·exact h1.elim
end
noncomputable def wZ(mp:eY!)(ρ:Ev):Ev:=mp.map λo=>match o with | some j=>(ρ[j]?).getD a! | none=>none
theorem z1S.inner(en:hC! H Y O):z1S mg H Y (wZ mp ρ) h8!:=by
 refine⟨by simp[wZ,L2.inner],λi d h=>?_⟩;simp only[wZ,_A,_ai]at h;obtain⟨o,h1,h2⟩:=h;cases o with
 | none=>cases h2 | some j=>
  simp only at h2;obtain⟨v,h4,h5⟩:=en.at_ j d (by cases e:ρ[j]? with
   | none=>rw[e]at h2;cases h2 | some x=>rw[e]at h2;simp at h2;rw[h2]);exact⟨v,by simp[L2.inner,h1,h4],h5⟩
open Classical in
noncomputable def qF(g:gm! Nat v!)(all:v!)(body:D->el! fD!):v!->v!->el! v!
 | [],acc,s=>ab! (okG g all s) (j! acc) | x::xs,acc,s=>ab! (okG g all s) (B! (body x s) (λo s1=>match o with
   | some d=>ab! (jZ!<cap) (qF g all dT! xs (acc++[d]) s1) | none=>qF g all dT! xs acc s1))
noncomputable def zc1(fi:FI)(mp:eY!)(fg:FG)(ft:FT)(fe:FE):FA:=b0! (fi ρ s) (λit s1=>qF it.2 it.1 (λd s=>B! (fg d (wZ mp ρ) s) (fun ρ' s'=>B! (ft ρ' s') (λb s2=>aF! b (B! (fe ρ' s2) (λd s3=>.ok k! s3)) (bD! a!)))) it.1 [] s1)
def z7y(mg:Gm)(E:XK)(mp:eY!)(g:TG)(fg:FG):g!:=∀(O:L2.St) H Y ρ s x d (Q:L2.St->Hp->Prop),d7!->z1S mg H Y (wZ mp ρ) h8!->km! d x->eF! E H Y (z1S mg) (fg d (wZ mp ρ) s) Q-> g x h8! H (λO2 H2=>(O2.length=q! h8!/\∀(i:Nat) v,aj! h8! bP!->aj! O2 bP!)/\Q O2 H2)
theorem z6u{i:Nat}(h:aj! mp a!)(O:L2.St):aj! h8! a!:=by simp[L2.inner,h]
theorem z8R{O:L2.St} (h:aj! O a!):q! (kV! i)=p4!/\∀(j:Nat) u,E! O j (b! u)->E! (kV! i) j (b! u):=by
 refine⟨by simp,λj u e=>?_⟩;rw[_ab (λz=>by subst z;rw[h]at e;cases e)];exact e
section
variable {X:Cx}{E:XK}{e a b c tg iter az:Expr}{es:aE!}{pos:Pos}{CX:CXT}{mp:eY!}
theorem zM(i:Nat)(h:aj! mp a!):z7y J! E mp (zev i) (yh i):=λO H Y ρ s x d Q r en dn ok=>⟨z8R (z6u h O),(hi! ok (en.set dn i))⟩
inductive WkC(mg:Gm)(E:XK)(Dn:Hp->an!->β->β2->g!)(Q2:β2->bQ!)(H1:Hp)(Y1:an!)(n:Nat)(G:Nat->v!->el! β)(i m:Nat)(ys:aG!)(H:Hp):g! | mk {Y:an!}{s:Sto}{acc:v!}(st:vD mg H1 Y1 H Y s)(dn:fZ! H Y acc ys)(hc:jZ!<=cap)(hm:m=n-i)(hi:i<=n)(h:eF! E H Y Dn (G i acc s) Q2):WkC mg E Dn Q2 H1 Y1 n G i m ys H
theorem bind_assoc{α γ δ:bL!}(x:R α)(f:α->el! γ)(k:γ->el! δ):B! (qy! f) k=qy! (λa s=>B! (f a s) k):=by cases x<;>rfl
theorem z5u{Dn:Hp->an!->β->β2->g!} (hg:z7y J! E mp g fg)(r:Rep J! H Y s)(en:z1S J! H Y ρ O) (h:okR J! E H Y Dn (B! (zc1 fi mp fg ft fe ρ s) kR) Q2) (fin:∀H1 Y1 s1 xs vs,Rep J! H1 Y1 s1->z1S J! H1 Y1 ρ O->yj J! H1 Y1 xs vs->okR J! E H1 Y1 Dn (kR xs s1) Q2->i3!->∀p,H1 p=a!->Q b6! (upd H1 p cp!)): zkn (tI J! E fi) mp g (tT J! E ft) (tE J! E fe) O H Q:=by
 unfold zc1 at h;rw[bind_assoc]at h;refine⟨Y,ρ,s,r,en,dc! h (λJ H1 ⟨Y1,s1,it,stp,ok,h1⟩=>?_)⟩;obtain⟨items,gd⟩:=it;refine⟨WkC J! E Dn Q2 H1 Y1 iO! λi acc s=>B! (qF gd g8! (λd s=>B! (fg d (wZ mp ρ) s) (fun ρ' s'=>B! (ft ρ' s') (λb s2=>aF! b (B! (fe ρ' s2) (λd s3=>.ok k! s3)) (bD! a!)))) (items.drop i) acc s) kR, ⟨iO!,.mk (.refl dz!) yj.nil g1! rfl g1! h1⟩,λi m ys H2 w=>?_⟩;have av:=im!;cases w with | @mk Y2 s2 acc ag ax bI hm hil h2=>
 subst hm;have aX:=av.mono ag;by_cases bx:i<iO!
 ·right;rw[_bJ bx,qF]at h2;split at h2
  ·rename_i hG;obtain⟨go,yl⟩:=((ok H2 Y2 s2 ag hG i).1 items[i] (_b bx));refine⟨go,λx H' y=>?_⟩;obtain⟨Y3,aq,cA⟩:=yl x H' y;have h3:=okR.rebase h2 aq;rw[bind_assoc,bind_assoc]at h3;refine hg O H' Y3 ρ s2 x items[i] _ aq.rep ((aX.mono aq).inner) cA ((okR.bind (Dn:=z1S J!) h3).imp λO4 H4 ⟨Y4,s4,ρ4,bG,hX,h5⟩=>?_);rw[bind_assoc]at h5;refine⟨Y4,ρ4,s4,bG.rep,hX,dc! h5 (λbb H5 ⟨Y5,s5,b',bN,eb,h6⟩=>?_)⟩;cases (eb);have fq := a4! (a4! (ag.trans aq) bG) bN;have k6:iO!-(i+1)<iO!-i:=by omega
   cases bb with
   | true=>
    rw[gU!]at h6 ⊢;rw[bind_assoc]at h6;refine⟨Y5,ρ4,s5,bN.rep,hX.mono bN,dc! h6 (λy H6 ⟨Y6,s6,d6,ck,cS,h7⟩=>?_)⟩;split at h7
    ·rename_i hc;exact⟨by rw[ax.length];exact kO bI,iO!-(i+1),k6,.mk (fq.trans ck) ((((ax.mono aq).mono bG).mono bN).mono ck |>.append (yj.one cS)) (by simp;omega) rfl bx h7⟩
    ·exact h7.elim | false=> exact⟨iO!-(i+1),k6,.mk fq (((ax.mono aq).mono bG).mono bN) bI rfl bx h6⟩
  ·exact h2.elim
 ·left;have e:i=iO!:=by omega
  subst e;rw[List.drop_length,qF]at h2;split at h2
  ·rename_i hG;exact⟨(ok H2 Y2 s2 ag hG _).2 al!,by rw[ax.length];exact kO bI,fin H2 Y2 s2 acc ys ju! aX ax h2 bI⟩
  ·exact h2.elim
noncomputable def zt(fi:FI)(mp:eY!)(fg:FG)(ft:FT)(fe:FE):FE:=b0! (zc1 fi mp fg ft fe ρ s) (jt! (M! cq!))
noncomputable def z1f(fi:FI)(mp:eY!)(fg:FG)(ft:FT)(fe:FE):FE:=b0! (zc1 fi mp fg ft fe ρ s) (jt! (ab! (da! xs) (.ok sA! (s1++[xs]))))
noncomputable def zX:FT:=λ_ s=>j! c!
theorem yd: zc6 Yy [] (tT (gm Yy) E zX):=λae s O H Q I ⟨Y,ρ,st,r,en,h⟩=>zk7 ae s O H Q I (eX! rfl)
theorem wN(h:RT Yy E c f):zc6 Yy [c] (tT (gm Yy) E f):=zko h
section
variable {scope:Scope}{aC:aE!}{fi:FI}{fg:FG}{ft:FT}{fe:FE}{g:TG}{aF py:Pos}
theorem zoB(N':aq!)(mp:eY!)(hc:b2!)(hi:RI X E tg ic! fi)(hg:lY! ct! tg g)(cq:z7y J! E mp g fg)(ht:lU! ct! aC (tT J! E ft))(he:pV! ct! az fe) (aV:ke!)(aR:∀y∈scope.names,jV! y.1=b! y.2) (aI:∀y∈scope.names,y.2=bT!->fP! y.1=ds!\/fP! y.1=b! bT!)(aW:kv! N' mp=c!) (hs:lc! (k4! x=lb!)):V! (f5! [gz! 0]) (zt fi mp fg ft fe):= yk (zgL (te:=tE J! E fe) N' mp hc hi hg ht (λex s H=>he ex s H) aV aR aI aW hs).freeze λO H Q ⟨Y,ρ,s,r,en,h⟩=> z5u cq r en h λH1 Y1 s1 xs vs r1 av dn h1 bI=>z06 r1 h1 dn
theorem zeA(N':aq!)(mp:eY!)(hN:X.N.Nodup)(hc:b2!)(hi:RI X E tg ic! fi)(hg:lY! ct! tg g)(cq:z7y J! E mp g fg)(ht:lU! ct! aC (tT J! E ft))(he:pV! ct! az fe) (aV:ke!)(aR:∀y∈scope.names,jV! y.1=b! y.2) (aI:∀y∈scope.names,y.2=bT!->fP! y.1=ds!\/fP! y.1=b! bT!)(aW:kv! N' mp=c!)(hy:A! (gr! y))(cL:mt! (ii! y)) (hs:lc! (k4! x=lb!)) (cM:A! (mr! (f5! [gz! 0]) (b! gC!) qp!=ru!)) (hf:ik! (hn! y\/fY! y)): RS X E (.Assign [gC!] (f5! [gz! 0]) aF) (yq i (zt fi mp fg ft fe)):= kM (zcc (te:=tE J! E fe) N' mp hN hy cL hc hi hg ht (λex s H=>he ex s H) aV aR aI aW hs cM hf) λD O H ⟨Y,ρ,s,r,en,h⟩=>by
  unfold yq zt at h;rw[(λx f k=>by cases x<;>rfl:∀{α γ δ:Type}(x:R α)(f:α->Sto->R γ)(k:γ->Sto->R δ),B! (qy! f) k=qy! (λa s=>B! (f a s) k))]at h;exact z5u cq r en h λH1 Y1 s1 xs vs r1 av dn h1 bI p hp=>(z06 (E:=E) r1 (λv H2 Y2 stp ax=>(h1 (.nx (kV! i)) H2 Y2 stp ((av.mono stp).set ax i))) dn p hp)
theorem zf4(N':aq!)(mp:eY!)(hN:X.N.Nodup)(hc:b2!)(hi:RI X E tg ic! fi)(hg:lY! ct! tg g)(cq:z7y J! E mp g fg)(ht:lU! ct! aC (tT J! E ft))(he:pV! ct! az fe) (aV:ke!)(aR:∀y∈scope.names,jV! y.1=b! y.2) (aI:∀y∈scope.names,y.2=bT!->fP! y.1=ds!\/fP! y.1=b! bT!)(aW:kv! N' mp=c!)(hy:A! (gr! y))(cL:mt! (ii! y)) (hs:lc! (k4! x=lb!)) (cM:A! (mr! (f5! [gz! 0]) (b! gC!) qp!=ru!)) (hf:ik! (hn! y\/fY! y)): RS X E (.Assign [gC!] (f5! [gz! 0]) aF) (yq i (z1f fi mp fg ft fe)):= kM (zf1 (te:=tE J! E fe) N' mp hN hy cL hc hi hg ht (λex s H=>he ex s H) aV aR aI aW hs cM hf) λD O H ⟨Y,ρ,s,r,en,h⟩=>by
  unfold yq z1f at h;rw[(λx f k=>by cases x<;>rfl:∀{α γ δ:Type}(x:R α)(f:α->Sto->R γ)(k:γ->Sto->R δ),B! (qy! f) k=qy! (λa s=>B! (f a s) k))]at h;refine z5u cq r en h λH1 Y1 s1 xs vs r1 av dn h1 bI p hp=>?_;split at h1
  ·rename_i hf;have stp:=vD.layL r1 hp dn hf;refine h1 (.nx (O.set i (b! b6!))) _ _ stp ((av.mono stp).set ?_ i);exact⟨p,rfl,by rw[<- r1.len];simp,vs,yu⟩
  ·exact h1.elim
end
end
section
variable {X:Cx}{E:XK}{e a b c tg iter az:Expr}{es:aE!}{pos:Pos}{CX:CXT}{mp:eY!}
noncomputable def zlN(K:W.Frag)(i j:Nat):TG:=zur K 2 (zn5 (zev i) (zn5 (zev j) zuc))
theorem xz(i j:Nat){x y:Str}{px py:Pos}{kt:Nat}(hc:b2!)(hN:X.N.Nodup)(hi:A! (gr! x))(hj:A! (E! X.N j y))(hx:mt! (ii! x))(hy:mt! (ii! y)) (hf:ik! (hn! x\/fY! x))(ia:ik! (hn! y\/fY! y)): PG X (jL! [fC! px,gC!] pos) (zlN X.K i j):=zlx hc (z5v (zS hN hi hx hf) (z5v (zS hN hj hy ia) zht))
theorem xw(i j:Nat)(aJ:i≠j)(h:aj! mp a!)(h':E! mp j a!):z7y J! E mp (zlN X.K i j) (yM i j):=λO H Y ρ s x d Q r en dn ok=>by
 unfold yM at ok;split at ok
 ·obtain⟨p,vs,rfl,q1,q2⟩:=kZ dn;obtain⟨v1,v2,rfl,e1,e2⟩:=za1 q2;have k1:=z8R (v:=v1) (z6u h O);have k2:=z8R (v:=v2) (show E! (i8! h8! i v1) j a! from by rw[_ab aJ];exact z6u h' O);exact⟨p,[v1,v2],rfl,q1,rfl,v1,[v2],rfl,v2,[],rfl,rfl,⟨k2.1.trans k1.1,λl u e=>k2.2 l u (k1.2 l u e)⟩,hi! ok ((en.set e1 i).set e2 j)⟩
 ·exact ok.elim
end
noncomputable def zv(N:aq!)(ds:v!):Ev:=ds.map some++ox! (N.length-qs!)
theorem z15: rW! ja! (z1S mg H Y (zv N ds) (L2.start N vs)):=λ{ds vs} h=>by
 have hl:=h.length;refine⟨by simp[zv,L2.start,hl],λi d e=>?_⟩;unfold zv at e;have hi:i<qs!:=by
  by_cases hi:i<qs!;·exact hi
  ·rw[_bx (by simpa using hi),_bd]at e;split at e<;>cases e
 rw[_I (by simpa using hi),_A]at e;obtain⟨v,h1,h2⟩:=h.get (by cases q:ds[i]? with
  | none=>rw[q]at e;cases e | some x=>rw[q]at e;simp at e;rw[e]);refine aV! v ?_ h2;unfold L2.start;rw[_I (by simpa[hl] using hi),_A,h1];rfl
noncomputable def Mof(N:aq!)(n:Nat)(fs:FS):Mir:=λds s=>ab! (qs!=n) (match fs (zv N ds) s with
 | .ok (.rt d) s'=>cg! d | .ok (.nx _) s'=>cg! aJ! | _=>.no)
section
variable {P:Program}{w:World}{K:W.Frag}{mg:Str->aS!}{base:Heap}
theorem Has.mono(h:Has P w K mg O! CX x n M)(hl:n<=m):Has P w K mg O! CX x m M:=by
 obtain⟨f,fd,ps,F,r⟩:=h;exact⟨f,fd,ps,F.mono hl,r⟩
theorem zq8{st:Stmt} (F:Fun K x av! st f fd)(hm:fn! x fj!)(hb:kp! K ps [])(S:R! N ps st)(hn:a5!=n) (body:sf! (hE! (kf! av! c2! f aj)) ((z4M CX0 P w K mg O! N av! c2! f aj A au! s H E).nox.calm=c!-> RSs (z4M CX0 P w K mg O! N av! c2! f aj A au! s H E).nox E0 h6! fs)):Has P w K mg O! CX0 x (k+1) (Mof N n fs):=by
 subst hn;refine⟨f,fd,ps,F.ok S (qz! ?_) (λaj A outer s H vs Q E hr h=>?_),hb,F.kp,hm⟩
 ·obtain⟨Y,s,ds,_,dn,h⟩:=h;unfold Mof at h;split at h;·rename_i e;rw[dn.length];exact e
  ·exact h.elim
 ·obtain⟨Y,cr,ds,r,dn,h⟩:=h;refine⟨_,body aj A au! s H E hr (by show A.handled.isNone=c!;rw[show nq! from hr.hd];rfl),Y,zv N ds,cr,r,z15 dn,?_⟩;unfold Mof at h;split at h
  ·split at h
   ·rename_i d s' e;rw[e];intro fv H' Y' stp fd;cases fv with
    | rt v=>exact h v H' Y' stp fd | _=>exact bZ! fd
   ·rename_i ρ s' e;rw[e];intro fv H' Y' stp fd;cases fv with
    | nx v=>exact h aJ! H' Y' stp rfl | _=>exact bZ! fd
   ·exact h.elim
  ·exact h.elim
theorem zqs{st:Stmt} (F:Fun K x av! st f fd)(hm:fn! x fj!)(hb:kp! K ps []):Has P w K mg O! CX0 x 0 (λ_ _=>.no):= ⟨f,fd,ps,⟨qz! (by obtain⟨_,_,_,_,_,h⟩:=h;exact h.elim),λA outer s H args us vs Q E _ _ _ _ h=>by obtain⟨_,_,_,_,_,h⟩:=h;exact h.elim⟩,hb,F.kp,hm⟩
end
def znd(K:W.Frag):Sp:=λvs H Q _=>∃(a:Addr)(ns:List Int),vs=[ac!]/\ztg H/\SqL K H a hQ!/\eN!<=63/\∀H',Q ew! H'
theorem z4h: ∀(ns:List Int),fZ! H Y il! hQ!
 | []=>yj.nil | n::ns=>pc! yA (z4h ns)
theorem zqK{K:W.Frag} {x:Str} (F:z9e P w K mg O! CX0 n f fd ps (ziT ⟨mg,K⟩ M)) (h:∀ns:List Int,eN!<=63->∃s',M [.scr il!] []=cg! ew!):z9e P w K mg O! CX0 n f fd ps (znd K):= F.imp λvs H Q E ⟨a,ns,e,ho,hq,hl,q⟩=>by
  subst e;obtain⟨s',hs⟩:=h ns hl;refine⟨[],[],[.scr il!],⟨rfl,List.nodup_nil,λl xs z=>by simp at z,λxs z=>by simp at z,λb h z=>by simp at z,λa ha=>by simp at ha⟩,yj.one ?_,?_⟩
  ·refine gR! a hQ! ?_ (z4h ns);rcases hq with (z | z) | z
   ·rcases ho a with y | ⟨o,xs,y⟩;·rw[y]at z;cases z
    ·rw[y]at z;cases z
   ·exact y! z
   ·exact Q! z
  ·rw[hs];intro v H' Y' stp dn;cases kS dn;exact q H'
section
variable {X:Cx}{E:XK}{e a b c tg iter az:Expr}{es:aE!}{pos:Pos}{CX:CXT}
noncomputable def z1V(f:FE):FE:=eO! (d5! (match d with | .int i=>M! (d! (-i)) | _=>.no))
theorem z3a(h:V! a f):V! (.UnaryOp .USub a pos) (z1V f):= yk (zqk zl1 h) λO H Q ⟨Y,ρ,s,r,en,h⟩=>by
  refine yJ (k:=kD! (match d with | .int i=>ep! (aD! (-i)) s1 | _=>.no)) r en h _ λv H1 Y1 s1 d r1 av dn stp h1=>?_;cases d with
  | int i=>
   cases yp dn;exact aC! i (n8! h1 r1 yA) | _=>exact h1.elim
noncomputable def z3b(i:Int)(n:Nat):v!:=aR! n (λ(k:Nat)=>aD! (i+Z! k))
noncomputable def zcg(f:FA):FI:=b0! aM! (iN! (match ds with
 | [.int i,.int j]=>ab! (-(2 ^ 62)<=i/\i<2 ^ 62/\-(2 ^ 62)<=j/\j<2 ^ 62) (M! (z3b i (j-i).toNat,[])) | _=>.no))
theorem zdH{p:Pos} (hg:oR!)(hm:dF! fr!)(ha:RA X E [a,b] f)(hs:A! (aw! [a,b]=[dY! a,dY! b]))(bT:A! (aw! [b]=[dY! b])):RI X E tg (dl! fr! p [a,b]) (zcg f):= z7Y (zgt hg hm ha hs bT) λO H Q ⟨Y,ρ,s,r,en,h⟩=>by
  refine⟨Y,ρ,s,r,en,dc! h (λvs H1 ⟨Y1,s1,ds,stp,dn,h1⟩=>?_)⟩;split at h1
  ·rename_i i j;split at h1
   ·rename_i hj;obtain⟨v,v',rfl,d1,d2⟩:=za1 dn;cases yp d1;cases yp d2;refine gR! i j hj (oB! (λH2 Y2 s2 ag _ k=>⟨iM! ?_,λhl=>?_⟩))
    ·have hi:k<fc! (j-i):=by simpa[z3b] using (cM! hd)
     refine⟨hi,λx H' ⟨e1,e2⟩=>?_⟩;subst e1 e2;refine⟨Y2,.refl ju!,?_⟩;rw[(show d=aD! (i+k) from by
      simp only[z3b,_A,_aF hi,_ag,_y]at hd;exact hd.symm)];exact yA
    ·rw[<- (show q! (z3b i (j-i).toNat)=fc! (j-i) from by simp[z3b])];exact hl
   ·exact h1.elim
  ·exact h1.elim
end
noncomputable def isK(o:bm! ls!)(k:NameKind):Bool:=match o,k with
 | some .local,.local=>true | some .cell,.cell=>true | some .free,.free=>true | some .globalImplicit,.globalImplicit=>true | _,_=>false
theorem zgT(h:isK o k=c!):o=b! k:=by cases o with
 | none=>cases k<;>cases h | some j=>cases j<;>cases k<;>first | rfl | cases h
noncomputable def isF(k:NameKind):Bool:=match k with | .free=>true | _=>false
theorem zp1(h:k=bT!):isF k=c!:=by subst h;rfl
noncomputable def zhC(ko:Str->bm! ls!)(names:dD! ls!):Bool:=names.all λy=>! isF y.2||(isK (ko y.1) .cell||isK (ko y.1) bT!)
theorem z56(h:zhC ko g9!=c!):∀y∈names,y.2=bT!->ko y.1=ds!\/ko y.1=b! bT!:=λy hy hf=>by
 have:=_T.mp h y hy;rw[zp1 hf]at this;simp only[Bool.not_true,Bool.false_or,Bool.or_eq_true]at this;exact this.imp zgT zgT
noncomputable def zfS(names:dD! ls!):Bool:=names.all λy=>isK (names.lookup y.1) y.2
theorem z5l(h:zfS g9!=c!):∀y∈names,names.lookup y.1=b! y.2:=cW! (zgT (_T.mp h y hy))
section
variable {X:Cx}{E:XK}{e a b c tg iter az:Expr}{es:aE!}{pos:Pos}{CX:CXT}
variable {scope:Scope}{aC:aE!}{fi:FI}{fg:FG}{ft:FT}{fe:FE}{g:TG}{aF py:Pos}
theorem zux(hg:e7!)(hm:∃t,X.mg x=b! (b7! i))(hd:ce! (x==cH!)):V! mS! (T! i):=let ⟨_,h⟩:=hm;zq1 hg h hd
theorem zL(N':aq!)(mp:eY!)(hc:b2!)(hi:RI X E tg ic! fi)(hg:lY! ct! tg g)(cq:z7y J! E mp g fg)(ht:lU! ct! aC (tT J! E ft))(he:pV! ct! az fe) (aV:A! ke!)(aR:dg! (zfS lt!))(aI:dg! sw!)(aW:dg! (kv! N' mp)) (hs:lc! (k4! x=lb!)):V! (f5! [gz! 0]) (zt fi mp fg ft fe):= zoB N' mp hc hi hg cq ht he aV (z5l aR) (z56 aI) aW hs
theorem zcd(i:Nat){y:Str}(N':aq!)(mp:eY!)(hN:X.N.Nodup)(hc:b2!)(hi:RI X E tg ic! fi)(hg:lY! ct! tg g)(cq:z7y J! E mp g fg)(ht:lU! ct! aC (tT J! E ft))(he:pV! ct! az fe) (aV:A! ke!)(aR:dg! (zfS lt!))(aI:dg! sw!)(aW:dg! (kv! N' mp))(hy:A! (gr! y))(cL:mt! (ii! y)) (hs:lc! (k4! x=lb!)) (cM:A! (mr! (f5! [gz! 0]) (b! gC!) qp!=ru!)) (hf:ik! (hn! y\/fY! y)): RS X E (.Assign [gC!] (f5! [gz! 0]) aF) (yq i (zt fi mp fg ft fe)):= zeA N' mp hN hc hi hg cq ht he aV (z5l aR) (z56 aI) aW hy cL hs cM hf
theorem znx(i:Nat){y:Str}(N':aq!)(mp:eY!)(hN:X.N.Nodup)(hc:b2!)(hi:RI X E tg ic! fi)(hg:lY! ct! tg g)(cq:z7y J! E mp g fg)(ht:lU! ct! aC (tT J! E ft))(he:pV! ct! az fe) (aV:A! ke!)(aR:dg! (zfS lt!))(aI:dg! sw!)(aW:dg! (kv! N' mp))(hy:A! (gr! y))(cL:mt! (ii! y)) (hs:lc! (k4! x=lb!)) (cM:A! (mr! (f5! [gz! 0]) (b! gC!) qp!=ru!)) (hf:ik! (hn! y\/fY! y)): RS X E (.Assign [gC!] (f5! [gz! 0]) aF) (yq i (z1f fi mp fg ft fe)):= zf4 N' mp hN hc hi hg cq ht he aV (z5l aR) (z56 aI) aW hy cL hs cM hf
end
theorem zpc{K:W.Frag} {st:Stmt} (F:Fun K x av! st f fd)(S:R! N ps st)(hn:a5!=n) (body:sf! (hE! (kf! av! c2! f aj)) ((z4M CX0 P w K mg O! N av! c2! f aj A au! s H E).nox.calm=c!-> RSs (z4M CX0 P w K mg O! N av! c2! f aj A au! s H E).nox E0 h6! fs)):z9e P w K mg O! CX0 (k+1) f fd ps (ziT ⟨mg,K⟩ (Mof N n fs)):=by
 subst hn;refine F.ok S (qz! ?_) (λaj A outer s H vs Q E hr h=>?_)
 ·obtain⟨Y,s,ds,_,dn,h⟩:=h;unfold Mof at h;split at h;·rename_i e;rw[dn.length];exact e
  ·exact h.elim
 ·obtain⟨Y,cr,ds,r,dn,h⟩:=h;refine⟨_,body aj A au! s H E hr (by show A.handled.isNone=c!;rw[show nq! from hr.hd];rfl),Y,zv N ds,cr,r,z15 dn,?_⟩;unfold Mof at h;split at h
  ·split at h
   ·rename_i d s' e;rw[e];intro fv H' Y' stp fd;cases fv with
    | rt v=>exact h v H' Y' stp fd | _=>exact bZ! fd
   ·rename_i ρ s' e;rw[e];intro fv H' Y' stp fd;cases fv with
    | nx v=>exact h aJ! H' Y' stp (by rfl) | _=>exact bZ! fd
   ·exact h.elim
  ·exact h.elim
section
variable {all xs:v!}{ρ:Ev}{s:Sto}
theorem z5g(I:Ev->Sto->g!):∀(xs:List D),(∀x∈xs,∀ ρ s,I ρ s->∃ ρ' s',body x ρ s=D! ρ' s'/\I ρ' s')->∀ ρ s,I ρ s->∃ ρ' s',yL [] all dT! xs ρ s=D! ρ' s'/\I ρ' s'
 | [],_,ρ,s,h=>⟨ρ,s,by simp[yL,okG],h⟩ | x::xs,hb,ρ,s,h=>by
  obtain⟨ρ1,s1,e1,h1⟩:=hb x (by simp) ρ s h;obtain⟨ρ2,s2,e2,h2⟩:=z5g I xs (cW! (hb y (by simp[hy]))) ρ1 s1 h1;exact⟨ρ2,s2,by simp[yL,okG,e1,e2],h2⟩
theorem zaA(f:D->D):∀(xs acc:List D),(∀x∈xs,body x s=j! (b! (f x)))->jZ!+x!<=cap->qF [] all dT! xs acc s=j! (acc++nS! f)
 | [],acc,_,_=>by simp[qF,okG] | x::xs,acc,hb,hl=>by
  rw[qF];simp[okG,hb x (by simp),(show jZ!<cap from by simp at hl;lia),(zaA f xs (acc++[f x]) (cW! (hb y (by simp[hy]))) (by simp at hl ⊢;lia))]
end
section
variable (i j k n:Nat)(ρ:Ev)(s:Sto)(f g fa fb fc:FE)(d x y:D)(ds:v!)(ar:FA)(op df:D->D->bl!)(ft gn:FT)(fs dW:FS)(M:Mir)(T:String)(fl fh fo:FO)(fi:FI)(fg:FG)(mp:eY!)(N:aq!)
@[simp] theorem yi:zd i ρ s=(match ρ[i]? with | some (some d)=>j! d | _=>.no):=U!
@[simp] theorem z0Z:eC d ρ s=j! d:=U!
@[simp] theorem yy:eOp op fa fb ρ s=B! (gA! s) (λx s1=>B! f4! (λy s2=>op x y s2)):=U!
@[simp] theorem yg:ze M ar ρ s=B! (ar ρ s) (jt! (M xs s1)):=U!
@[simp] theorem zP:zj ρ s=j! []:=U!
@[simp] theorem zy:zb f ar ρ s=kc! (λx s1=>B! (ar ρ s1) (λxs s2=>bD! (x::xs))):=U!
@[simp] theorem z22:uD ar ρ s=B! (ar ρ s) (jt! (ab! i3! (M! ah!))):=U!
@[simp] theorem zdR:kQ ar ρ s=B! (ar ρ s) (jt! (ab! i3! (M! cq!))):=U!
@[simp] theorem z77:z9W ar ρ s=B! (ar ρ s) (jt! (ab! (i3!/\da! xs) (.ok sA! (s1++[xs])))):=U!
@[simp] theorem zjO:eIs T f ρ s=d5! (gIs T d s1):=U!
@[simp] theorem zg4:z1V f ρ s=d5! (match d with | .int i=>M! (d! (-i)) | _=>.no):=U!
@[simp] theorem ztX:zra f ρ s=kc! (λx s1=>match x with | .bl k=>M! (.bl (!k)) | _=>.no):=U!
@[simp] theorem z4p:zaN fa fb ρ s=B! (gA! s) (λx s1=>match x with | .bl true=>f4! | .bl false=>M! cJ! | _=>.no):=U!
@[simp] theorem zqb:eIf ft fa fb ρ s=B! (ft ρ s) (λx s1=>aF! x (gA! s1) f4!):=U!
@[simp] theorem zbB:eSl f fl fh ρ s=kc! (λx s1=>B! (fl ρ s1) (λlo s2=>B! (fh ρ s2) (λhi s3=>dSl x lo hi s3))):=U!
@[simp] theorem jF:zC ρ s=j! a!:=U!
@[simp] theorem z1J:yt f ρ s=d5! (match d with | .int i=>M! h0! | _=>.no):=U!
@[simp] theorem wT:tOf f ρ s=d5! (match d with | .bl k=>M! k | _=>.no):=U!
@[simp] theorem zi1:zkV ft gn ρ s=B! (ft ρ s) (λx s1=>aF! x (gn ρ s1) (M! r!)):=U!
@[simp] theorem zcD:fOr ft gn ρ s=B! (ft ρ s) (λx s1=>aF! x (M! c!) (gn ρ s1)):=U!
@[simp] theorem z01:z1N ft ρ s=B! (ft ρ s) (λx s1=>M! (!x)):=U!
@[simp] theorem zr0:zen op df fa fb fc ρ s=B! (gA! s) (λx s1=>B! f4! (λy s2=>B! (op x y s2) (λz s3=>match z with
 | .bl true=>B! (fc ρ s3) (λw s4=>df y w s4) | .bl false=>.ok cJ! s3 | _=>.no))):=U!
@[simp] theorem zkw:zx fs dW ρ s=B! (fs ρ s) (λfl s1=>match fl with | .nx ρ'=>dW ρ' s1 | fl=>M! fl):=U!
@[simp] theorem zsk:yY ρ s=aO! ρ:=U!
@[simp] theorem zve:fNo ρ s=.no:=U!
@[simp] theorem z0M:we f ρ s=kc! (λ_ s1=>g0! ρ):=U!
@[simp] theorem yf:xf f ρ s=d5! (M! (.rt d)):=U!
@[simp] theorem ke:fIf ft fs dW ρ s=B! (ft ρ s) (λx s1=>aF! x (fs ρ s1) (dW ρ s1)):=U!
@[simp] theorem zN:yq i f ρ s=d5! (g0! (i1! k!)):=U!
@[simp] theorem zhK:zit f fg ρ s=d5! (B! (fg d ρ s1) (fun ρ' s2=>D! ρ' s2)):=U!
@[simp] theorem zu4:zr8 i j ar ρ s=B! (ar ρ s) (iN! (match ds with | [x,y]=>g0! (i8! (i1! dJ!) j y) | _=>.no)):=U!
@[simp] theorem va:yh i d ρ s=j! (i1! k!):=U!
@[simp] theorem z8O:yM i j (p! [x,y]) ρ s=j! (i8! (i1! dJ!) j y):=U!
@[simp] theorem zcP:z0D fa fb fc ρ s=B! (fc ρ s) (λd s1=>B! (gA! s1) (λo s2=>B! (fb ρ s2) (λi s3=>match o,i with
 | .loc l,.int k=>match s3[l]? with
  | some xs=>match kQ! k with
   | some j=>ab! mJ! (D! ρ (s3.set l (iE! j d))) | none=>.no
  | none=>.no
 | _,_=>.no))):=U!
@[simp] theorem jm:zT f ρ s=d5! (match d with
 | .tup xs=>M! (xs,[]) | .lst xs=>M! (xs,[]) | .loc l=>match s1[l]? with | some xs=>M! (xs,[(l,xs)]) | none=>.no
 | _=>.no):=U!
@[simp] theorem zdX:jw ar ρ s=B! (ar ρ s) (iN! (match ds with
 | [.int j]=>ab! (-(2 ^ 62)<=j/\j<2 ^ 62) (M! (r6!,[])) | _=>.no)):=U!
@[simp] theorem zmH:zcg ar ρ s=B! (ar ρ s) (iN! (match ds with
 | [.int i,.int j]=>ab! (-(2 ^ 62)<=i/\i<2 ^ 62/\-(2 ^ 62)<=j/\j<2 ^ 62) (M! (z3b i (j-i).toNat,[])) | _=>.no)):=U!
@[simp] theorem zgv:z4W ar ρ s=B! (ar ρ s) (iN! (match ds with
 | [x,y]=>match z8m s1 x,z8m s1 y with
  | some p,some q=>M! (z42 p.1 q.1,p.2++q.2) | _,_=>.no
 | _=>.no)):=U!
@[simp] theorem qE:z4J fi fg fs ρ s=B! (fi ρ s) (λit s1=>yL it.2 it.1 (ee! (fg d ρ s) (fs ρ' s')) it.1 ρ s1):=U!
@[simp] theorem uJ:zc1 fi mp fg ft f ρ s=B! (fi ρ s) (λit s1=>qF it.2 it.1 (λd s=>B! (fg d (wZ mp ρ) s) (fun ρ' s'=>B! (ft ρ' s') (λb s2=>aF! b (B! (f ρ' s2) (λd s3=>.ok k! s3)) (bD! a!)))) it.1 [] s1):=U!
@[simp] theorem ut:zt fi mp fg ft f ρ s=B! (zc1 fi mp fg ft f ρ s) (jt! (M! cq!)):=U!
@[simp] theorem zdi:z1f fi mp fg ft f ρ s=B! (zc1 fi mp fg ft f ρ s) (jt! (ab! (da! xs) (.ok sA! (s1++[xs])))):=U!
@[simp] theorem z3u:zX ρ s=j! c!:=U!
@[simp] theorem z8G:zcA fa fb ρ s=B! (gA! s) (λo s1=>match o with
 | .loc l=>B! f4! (λd s2=>match s2[l]? with
  | some xs=>ab! (mJ!/\x!<cap) (.ok aJ! (oa! l (xs++[d]))) | none=>.no)
 | _=>.no):=U!
@[simp] theorem qI:wZ [] ρ=[]:=U!
@[simp] theorem jy:wZ (h0!::mp) ρ=(ρ[i]?).getD a!::wZ mp ρ:=U!
@[simp] theorem jD:wZ (a!::mp) ρ=a!::wZ mp ρ:=U!
variable (a b:Int)(u v:Bool)(xs ys:v!)
@[simp] theorem z65:yW f2! e0! s=t! (a+b):=rfl
@[simp] theorem z3X:yW ah! (p! ys) s=ab! (x!+c6!<=cap) (bc! (xs++ys)):=rfl
@[simp] theorem zdB:yW cq! hW! s=ab! (x!+c6!<=cap) (bt! (xs++ys)):=rfl
@[simp] theorem zfE:z7r f2! e0! s=t! (a-b):=rfl
theorem zfP:yS f2! e0! s=ab! (od!<BIG/\b.natAbs<BIG) (t! (a*b)):=by
 simp only[yS,dII,iOk];split<;>(rename_i h;split at h<;>simp_all)
theorem zh2:z9l f2! e0! s=ab! (0<b/\b.natAbs<BIG) (t! (a / b)):=by
 simp only[z9l,dII,iOk];split<;>(rename_i h;split at h<;>simp_all)
theorem zoF:zdO f2! e0! s=ab! (0<b) (t! (a % b)):=by
 simp only[zdO,dII,iOk];split<;>(rename_i h;split at h<;>simp_all)
theorem zlv:zbW f2! e0! s=ab! (0<=b/\dv! b/\od!<ft!) (t! (a ^ pe!)):=by
 simp only[zbW,dII,iOk];split<;>(rename_i h;split at h<;>simp_all)
@[simp] theorem zuJ:dLt f2! e0! s=fB! (a<b):=rfl
@[simp] theorem zvc:dLe f2! e0! s=fB! (a<=b):=rfl
@[simp] theorem zrJ:dGt f2! e0! s=fB! (b<a):=rfl
@[simp] theorem zuY:dGe f2! e0! s=fB! (b<=a):=rfl
@[simp] theorem zaR:dEq f2! e0! s=fB! (a=b):=by rfl
@[simp] theorem zcm:dNe f2! e0! s=fB! (a≠b):=by
 rw[dNe,(show eqD f2! e0!=ki! a b from by
  simp only[eqD,zuU,PyData.eqv];rw[Bool.eq_iff_iff];rfl),_i (by constructor<;>rfl)];simp
@[simp] theorem zv2:dEq (.bl u) (.bl v) s=bz! (u==v):=by cases u<;>cases v<;>rfl
@[simp] theorem zuZ:dNe (.bl u) (.bl v) s=bz! (u != v):=by cases u<;>cases v<;>rfl
end
theorem zm(h:aM!=D! ρ' s'):zx f g ρ s=g ρ' s':=by simp[h]
theorem z0I(h:aM!=cg! (.rt d)):zx f g ρ s=cg! (.rt d):=by simp[h]
theorem z17(I:Nat->Ev->Sto->g!):∀(xs:List D)(k:Nat),(∀j x,E! xs j x->∀ ρ s,I (k+j) ρ s->∃ ρ' s',body x ρ s=D! ρ' s'/\I (k+j+1) ρ' s')-> ∀ ρ s,I k ρ s->∃ ρ' s',yL [] all dT! xs ρ s=D! ρ' s'/\I (k+x!) ρ' s'
 | [],k,_,ρ,s,h=>⟨ρ,s,by simp[yL,okG],h⟩ | x::xs,k,hb,ρ,s,h=>by
  obtain⟨ρ1,s1,e1,h1⟩:=hb 0 x (by rfl) ρ s h;obtain⟨ρ2,s2,e2,h2⟩:=z17 (all:=all) I xs (k+1) (λj y hy ρ s hi=>by
   rw[(show k+1+j=k+(j+1) from by lia)]at hi ⊢;exact hb (j+1) y (by exact hy) ρ s hi) ρ1 s1 h1;refine⟨ρ2,s2,by simp[yL,okG,e1,e2],?_⟩;rw[(show k+q! (x::xs)=k+1+x! from by simp;lia)];exact h2
theorem z2G(h:E! (ym n) j x):j<n/\x=d! j:=by
 have hj:j<n:=by simpa[ym] using (cM! h)
 refine as! hj ?_;simp only[ym,_A,_aF hj,_ag,_y]at h;exact h.symm
theorem zf7(h:x∈ym n):∃j:Nat,j<n/\x=d! j:=by
 obtain⟨j,hj,e⟩:=ge! h;have:=z2G (by rw[_b hj,e]);exact aV! j (iP!).1 (iP!).2
theorem yI:∀(ns:List Int),da! il!
 | []=>rfl | n::ns=>yI ns
theorem z9d(i:Int):(aD! i).flat=c!:=rfl
theorem op3{f g:FE}{d:D->D->bl!}{ρ:Ev}{s s1 s2:Sto}{x y:D}{r:R D}(h1:aM!=M! x)(h2:g ρ s1=bD! y)(h:d x y s2=r):eOp d f g ρ s=r:=by rw[yy,h1,Rb,h2,Rb,h]
theorem zn1{f:FE}{ρ:Ev}{s s1:Sto}{x:D}{i:Nat}(h:aM!=M! x):yq i f ρ s=g0! (i1! dJ!):=by rw[zN,h,Rb]
theorem vM{i:Nat}{ρ:Ev}{s:Sto}{d:D}(h:aj! ρ k!):zd i ρ s=j! d:=by rw[yi,h]
theorem ac3{f:FE}{g:FA}{ρ:Ev}{s s1 s2:Sto}{x:D}{xs:v!}(h1:aM!=M! x)(h2:g ρ s1=bD! xs):zb f g ρ s=bD! (x::xs):=by rw[zy,h1,Rb,h2,Rb]
theorem zfk{a:FA}{ρ:Ev}{s s1:Sto}{xs:v!}(h:a ρ s=M! xs)(hc:i3!):kQ a ρ s=M! cq!:=by rw[zdR,h,Rb,_i hc]
theorem zeC{a:FA}{ρ:Ev}{s s1:Sto}{xs:v!}(h:a ρ s=M! xs)(hc:i3!):uD a ρ s=M! ah!:=by rw[z22,h,Rb,_i hc]
theorem cl3{M:Mir}{a:FA}{ρ:Ev}{s s1:Sto}{xs:v!}{r:R D}(h:a ρ s=M! xs)(hM:M xs s1=r):ze M a ρ s=r:=by rw[yg,h,Rb,hM]
theorem zhm{xs ys:v!}{s:Sto}(h:x!+c6!<=cap):yW ah! (p! ys) s=bc! (xs++ys):=by rw[z3X,_i h]
theorem zt3{xs ys:v!}{s:Sto}(h:x!+c6!<=cap):yW cq! hW! s=bt! (xs++ys):=by rw[zdB,_i h]
theorem z0n:∀{xs:List D}{d:D},da! xs->d∈xs->mJ!
 | x::xs,d,f,h=>by
  simp only[flC,flN,_R]at f;rcases eK! h with rfl | h;·exact f.1
  ·exact z0n f.2 h
theorem jJ.flatten(k:bG! (cR! o->(∀vs,o≠cp!)->(∀ah,o≠lf!)->(∀ah,a3! ah->o≠gW!)->H' b=b! o))(f:da! ys)(e:H' c=H c)(ha:c∈Y)(ro:∀b,Own H Y b->b∉Y)(w:∀b vs,b∉Y->cR! cp!->H' b=L! vs)(h:jJ mg H Y ys c):jJ mg H' Y' ys c:=by
 rcases h with⟨vs,h1,h2⟩ | ⟨ah,h1,h2⟩ | ⟨o,ah,ys,h1,h2⟩ | ⟨ah,g,h1,h2⟩ | ⟨o,ah,ys,h1,e1,h2,fz⟩;·exact y! ⟨vs,mB!,h2.flatten k f⟩
 ·exact Q! (y! ⟨ah,mB!,h2⟩)
 ·exact in! (y! ⟨o,ah,ys,mB!,h2⟩)
 ·refine Q! (in! (y! ⟨ah,g,mB!,h2.imp (λzs vs k' hm q=>q.flatten k ?_) (λq b vs hm=>w b vs (ro b ⟨c,ha,ah,q,h1,hm⟩)) λb o vs q=>k b _ q (by intro vs z;cases z) (by intro vs z;cases z) (by intro vs g z;cases z)⟩));rcases hm with hm | hm;·exact (ne! (z0n f hm)).1
  ·exact (ne! (z0n f hm)).1
 ·subst e1;have f:da! ys:=by exact f
  refine in! (in! ⟨o,ah,ys,mB!,rfl,h2.imp (λzs vs k' hm q=>q.flatten k ?_) (λq b vs hm z=>bZ! (h2.fz fz.1 hm z)) λb o vs q=>k b _ q (by intro vs z;cases z) (by intro vs z;cases z) (by intro vs g z;cases z),fz⟩);rcases hm with hm | hm;·exact (ne! (z0n f hm)).1
  ·exact (ne! (z0n f hm)).1
end Dd
namespace Zz
open PySem.AutoSeq1 (wpAny_loadPart')
section
variable {P:Program}{w:World}{A:Around}{E:bX!}{s:Shared}
theorem znC{k:Nat} (he:IsEnum F! e it k bz) (h1:Sit b F! it l k) (c1:hT! b l xs) (ex:E! xs k x) (ne:e≠it) (q:∀h',IsEnumOut h' e it (h! k+1) x at!->Sit b h' it l (k+1)->gj! at! ({cls:=dC!,data:=.seq #[bx! k fQ!,x]})-> (∀c o,c≠e->c≠it->dm! c->dw! c)->Q (b! fV!) {s with heap:=h',toks:=fQ!+1}):gh! P w A (o6! ei!) Q E s:=by
 have hT:pa! ei! gE!:=b5! he;refine _a (_dh (_af hT _bu (_aw _bu hT F.entry_enumerate_next ?_ (F.args_enumerate_next_1 _))));obtain⟨hp,g,d,tk,os⟩:=s;show wpAny _ _ (field ei! 2 >>= _) _ _ _;refine _a (jQ! he (_a (nx h1 c1 ex λg1 t1 s1=>?_)));have e1 := a4! (s1.2 e ne) he;refine _a (jQ! e1 ?_);refine _a (jQ! e1 ?_);refine _a (wpAny_mkInt ?_);refine _a (_al e1 (by simp) λg2 e2 s2=>?_);refine _a (_al e2 (by simp) λg3 e3 s3=>?_);refine _a (_cO ?_);have e4:IsEnum (g3.push {cls:=dC!,data:=.seq #[bx! k tk,x]}) e it (k+1) bz:=_g _ e3;generalize hg4:g3.push {cls:=dC!,data:=.seq #[bx! k tk,x]}=g4 at e4;have sz:g3.objs.size=hp.objs.size:=by rw[s3.1,s2.1,s1.1]
 have el := _r he;have t4:g4.get? hp.objs.size=b! ({cls:=dC!,data:=.seq #[bx! k tk,x]}):=by rw[<- hg4,<- sz];exact g2!
 have i4:Sit b g4 it l (k+1):=t1.to λo z=>by rw[<- hg4];exact _g _ (zF s3 ne.symm (zF s2 ne.symm z))
 rw[sz];refine _a ?_;refine _a (jQ! e4 (_m ?_));refine _a (_cI ?_);refine _a (jQ! e4 (_a (_al e4 (by simp) λg5 e5 s5=>?_)));refine _a ?_;refine _a (_al e5 (by simp) λg6 e6 s6=>?_);refine _al e6 (by simp) λg7 e7 s7=>?_;have up:∀c o,c≠e->g4.get? c=b! o->g7.get? c=b! o:=λc o n z=>zF s7 n (zF s6 n (zF s5 n z));refine _a (sD! (aC! _ (_m (q g7 e7 (i4.to λo z=>up _ o ne.symm z) (up _ _ (_cA el) t4) λc o n1 n2 z=>up c o n1 ((λc o n1 n2 z=>by rw[<- hg4];exact _g _ (zF s3 n1 (zF s2 n1 (zF s1 n2 z)))) c o n1 n2 z)))))
theorem zqT{k:Nat} (hh:nq!)(he:IsEnum F! e it k bz)(h1:Sit b F! it l k)(c1:hT! b l xs)(ex:xs[k]? = a!) (q:∀h',Heap.ExtBut it F! h'->Q a! {s with heap:=h'}):gh! P w A (o6! ei!) Q E s:=by
 have hT:pa! ei! gE!:=b5! he;refine _a (_dh (_af hT _bu (_aw _bu hT F.entry_enumerate_next ?_ (F.args_enumerate_next_1 _))));show wpAny _ _ (field ei! 2 >>= _) _ _ _;refine _a (jQ! he (_a (zgb hh h1 c1 ex λh' x d9 hx'=>?_)));obtain⟨o,ho,hc⟩:=hx';exact _a (wpAny_isInstance (cr! ho hc) isSubtype_stop (_m (q _ d9)))
end
theorem zkr(b:Bool)(l:Addr)(xs:cz!): Meets (Builtin.«enumerate.__new__» (dG! [ar! gE!,ez!])) (λ_ R s=>hT! b l xs/\R (l7! (w! (eb! (mp! b l)))) {s with heap:=c7! (mp! b l) ({cls:=ar! gE!,data:=eJ! #[X!,.bool r!,fV!,rawInt 0,X!,X!]})}):= rd! (by
  obtain⟨hp,g,d,tk,os⟩:=s;obtain⟨c1,h⟩:=h;have bP:=sub_enumerate;have q1 := c1;obtain⟨o,hl⟩:∃o,hp.get? l=b! o:=by cases b with
   | true=>obtain⟨o,e,_⟩:=c1;exact gT! o | false=>obtain⟨o,e,_⟩:=c1;exact gT! o
  wp_walk using _au hl;refine wpAny_stack_any λst=>_m ?_;split
  ·rename_i c _ _ _ _ _;cases (c==Value.type gE!)
   ·wp_walk using _au hl,z8a q1;exact aC! _ h
   ·wp_walk using _au hl,z8a q1;exact aC! _ h
  ·wp_walk using _au hl,z8a q1;exact aC! _ h)
section
variable {P:Program}{w:World}{A:Around}{E:bX!}{s:Shared}
theorem zn7(c1:hT! b l xs) (h:∀h',IsEnum h' dO! at! 0 X!->Sit b h' at! l 0->(∀c o,dm! c->dw! c)->Q (w! dO!) {s with heap:=h'}): gh! P w A (call (ar! gE!) [ez!]) Q E s:=by
 refine callType_new F.called_enumerate (by decide) (F.typeCall_enumerate_1 _) (F.newCall_enumerate_1 _) (λobj=>F.args_object_init_2 obj _) F.entry_enumerate_new (zkr b l xs) ⟨c1,?_⟩;have z1:eb! (mp! b l)=dO!:=_aI ..;have g2:=_x (mp! b l) (o:={cls:=ar! gE!,data:=eJ! #[X!,.bool r!,fV!,rawInt 0,X!,X!]}) rfl;have g1:e6! (c7! (mp! b l) ({cls:=ar! gE!,data:=eJ! #[X!,.bool r!,fV!,rawInt 0,X!,X!]})) at! (itO b l):=_g _ (_x _ (z5r b l));rw[z1]at g2;rw[z1];exact⟨b5! g2,h _ g2 (zaC g1) λc o e=>_g _ (_g _ e)⟩
end
end Zz
namespace L2
open Zz
def Ite(K:W.Frag)(b:Bool)(l:Addr):It:= ⟨λi H=>∃xs x,Sq b K H l xs/\aj! xs x, λi H v H'=>∃T x,H T=a!/\v=w! T/\H'=hS! T (p! [aa!,x])/\∀xs,Sq b K H l xs->aj! xs x, λi H=>∃xs,Sq b K H l xs/\x!<=i⟩
theorem zhf{P:Program}{w:World}{K:W.Frag}{br:aE!}{kt:Nat}{tp:Pos}{b:Bool}{e it l:Addr}(ne:e≠it): zji P w K (jL! br tp) (Ite K b l) [e,it] e (λi h=>(∃bz,IsEnum h e it (Z! i) bz)/\Sit b h it l i) where
 mem:=by simp
 obj:=λi h ⟨⟨bz,he⟩,h1⟩ c hc=>by
  rcases (by simpa using hc) with rfl | rfl;·exact bM! he (λv z=>by simp at z)
  ·exact h1.ob
 keep:=λi h h' ⟨⟨bz,he⟩,h1⟩ k=>⟨⟨bz,k e (by simp) _ he⟩,h1.to λo z=>k it (by simp) o z⟩;item:=by
  intro X hP hw hK hc i ae s O H E I hf ⟨⟨bz,he⟩,h1⟩ ⟨xs,x,qx,ex⟩;subst hP hw hK;obtain⟨ix,rx,cx⟩:=I.sq qx;obtain⟨u,hu,ru⟩:=rx.get ex;refine znC he h1 cx (by simpa using hu) ne λg a1 a2 a3 hk=>aC! _ (wpAny_letOwnedTupleGo_enum a1 λg2 e2 s2=>?_);obtain⟨f0,f1,f2,f3,f4,f5⟩:=hf e (by simp);have new := I.fpOk al! (mq! _);have el := _D (_r he);refine⟨fV!,hS! at! (p! [aa!,x]),((I.turnedL (t':=fQ!+1) (λc o n z=>hk c o (λt=>n (by simp[t])) (λt=>n (by simp[t])) z) hf).turned (t':=fQ!+1) (λc o n z=>zF s2 n z) f0 f1 f3 f4 f5).track new ⟨?_,[bx! i fQ!,u],eI! (co! _) (eI! ru cu!),⟨_,(zF s2 el.symm a3),rfl,rfl,_,rfl⟩⟩,rfl,⟨_,x,new.1,rfl,rfl,λzs qz=>?_⟩,⟨c0! (by simpa using e2),a2.to λo z=>zF s2 ne.symm z⟩,λc hc=>?_⟩;·show 2<=aW!;decide
  ·rw[I.sq_inj qz qx];exact ex
  ·rw[zJ (by
    rcases (by simpa using hc) with rfl | rfl;·exact el
    ·exact _D h1.lt)];exact (hf c hc).1
 done:=by
  intro X hP hw hK hc i ae s O H E I hf ⟨⟨bz,he⟩,h1⟩ ⟨xs,qx,hl⟩;subst hP hw hK;obtain⟨ix,rx,cx⟩:=I.sq qx;have lx:=rx.length;obtain⟨f0,f1,f2,f3,f4,f5⟩:=hf it (by simp);exact zqT hg! he h1 cx (by simp;lia) λg hk=>iq! (I.turned (λc o n z=>hk c o n z) f0 f1 f3 f4 f5)
 self:=λ_ _ _ _ _ ⟨⟨_,he⟩,_⟩ h=>wpAny_pyIter_enum he h
theorem zmD{br:aE!}{kt:Nat}{tp:Pos} {p pos:Pos}(hg:ix! gE!)(hm:dF! gE!)(ha:PA X [a] ta)(hs:A! (aw! [a]=dY! a::aw! []))(au:d4! [] (·.1)): PI X (jL! br tp) (dl! gE! p [a]) (λO H R=>ta O H λvs H1=>∃l b,vs=[ez!]/\(∃xs,Sq b X.K H1 l xs)/\R (Ite X.K b l) H1):=by
 refine λae s O H R I h=>_aq (z1z I hg hm (u:=ar! gE!) (by decide +kernel) (_aa (thn (ha pos ae s O H _ I h) λus s1 ⟨vs,H1,I1,r1,q1⟩=>?_) hs au) (by decide) (by decide));obtain⟨l,b,rfl,⟨xs,qx⟩,q⟩:=q1;obtain⟨u,rfl,ru⟩:=vals1 r1;cases ru;obtain⟨ix,rx,cx⟩:=I1.sq qx;refine zn7 cx λg he h1 hk=>(wpAny_pyIter_enum he ⟨_,_,_,_,H1,rfl,n1! hk,zhf (Nat.succ_ne_self _),⟨c0! he,h1⟩,λc hc=>?_,q⟩);have cB:iK!<=c:=by
  rcases (by simpa using hc) with rfl | rfl;·exact _c5 _
  ·exact al!
 exact rN! cB cB
theorem z6o(ns:i!):∀n,n<=eN!->preSum (λi=>iY! i) n=(ns.take n).sum
 | 0,_=>by simp[preSum] | n+1,h=>by
  rw[preSum,z6o ns n (by lia),<- List.take_append_getElem ((by lia)),List.sum_append,(show iY! n=ns[n] from by simp[_b (show n<eN! by lia)])];simp only[_aM,List.sum_nil,_aZ]
theorem zhV(hc:b2!):l2! X "sum" (∃(b:Bool)(p:Addr)(ns:List Int),xs=[b6!]/\Sq b X.K H p hQ!/\Q (d! ns.sum) H):=by
 intro ae s O H xs us Q I r h;obtain⟨b,p,ns,rfl,hq,q⟩:=h;obtain⟨u,rfl,ru⟩:=k0!;cases ru;obtain⟨af,rv,co⟩:=I.sq hq;refine call_sum_walkG (st! hg! co ?_);subst e2;refine⟨_,_,_,_,_,_,(λi=>iY! i),rfl,W,st,bd,(λi v e=>let ⟨t,e1,_⟩:=z7f rv e;as! t e1),λh' tk t' hk=>?_⟩;rw[(show iL!=eN! from by simp[(by have:=rv.length;simp at this;omega)]),z6o ns _ al!,List.take_length];exact⟨d! ns.sum,H,mf! (bz h' hk),co! t',q⟩
end L2
namespace Dd
open L2
section
variable {X:Cx}{E:XK}{e a b c tg iter az:Expr}{es:aE!}{pos:Pos}{CX:CXT}
noncomputable def zv5(i j k:Nat)(f:FA):FS:=b0! aM! (iN! (match ds with | [x,y,z]=>g0! (i8! (i8! (i1! dJ!) j y) k z) | _=>.no))
def zmd:v!->bl!
 | [d],s=>match B! (zY s d) intsOf with | some ns=>t! ns.sum | none=>.no
 | _,_=>.no
theorem zqd(hc:b2!):∃r,jA! X "sum" r/\z1P X E r zmd:=j7! (zhV hc) (by
 unfold zmd at h;split at h
 ·split at h
  ·rename_i ns e;obtain⟨xs,e1,e2⟩:=_be.mp e;have:=z07 e2;subst this;obtain⟨v,rfl,dn⟩:=ld!;obtain⟨a,ws,rfl,q1,q2⟩:=qW r e1 dn;cases z09 q2;obtain⟨b,q⟩:=zdz q1;exact⟨b,a,ns,rfl,q,eX! yA⟩
  ·exact h.elim
 ·exact h.elim)
def z1Y:Nat->v!->v!
 | _,[]=>[] | i,x::xs=>p! [aa!,x]::z1Y (i+1) xs
theorem qR:∀(i:Nat)(xs:List D),q! (z1Y i xs)=x!
 | _,[]=>rfl | i,x::xs=>by simp[z1Y,qR (i+1) xs]
theorem z9B:∀{i k:Nat}{xs:List D}{d:D},E! (z1Y i xs) k d->∃x,E! xs k x/\d=p! [d! (Z! (i+k)),x]
 | _,_,[],_,h=>by cases h | i,0,x::xs,d,h=>by simp[z1Y]at h;exact⟨x,by rfl,by simp[h]⟩ | i,k+1,x::xs,d,h=>by
  simp only[z1Y,_d]at h;obtain⟨y,h1,h2⟩:=z9B h;refine⟨y,by exact h1,?_⟩;rw[h2,show i+1+k=i+(k+1) by lia]
noncomputable def z20(f:FA):FI:=b0! aM! (iN! (match ds with
 | [x]=>match z8m s1 x with
  | some p=>M! (z1Y 0 p.1,p.2) | none=>.no
 | _=>.no))
theorem zbu{p tp:Pos}{br:aE!}{kt:Nat} (hg:ix! gE!)(hm:dF! gE!)(ha:RA X E [a] f)(hs:A! (aw! [a]=dY! a::aw! []))(au:d4! [] (·.1)): RI X E (jL! br tp) (dl! gE! p [a]) (z20 f):= z7Y (zmD hg hm ha hs au) λO H Q ⟨Y,ρ,s,r,en,h⟩=>by
  refine⟨Y,ρ,s,r,en,dc! h (λvs H1 ⟨Y1,s1,ds,stp,dn,h1⟩=>?_)⟩;split at h1
  ·split at h1
   ·rename_i p ex;obtain⟨v,rfl,d1⟩:=z1I dn;obtain⟨ie,b1,a1,rfl,k1⟩:=zcw dz! ex d1;obtain⟨w1,q1,_⟩:=k1 H1 Y1 s1 (.refl dz!) ie;refine gR! a1 b1 (as! w1 q1) (oB! (λH2 Y2 s2 ag og i=>⟨iM! ?_,λhl=>?_⟩))
    ·obtain⟨x,e1,rfl⟩:=z9B hd;obtain⟨w1,q1,n1⟩:=k1 H2 Y2 s2 ag og;obtain⟨u1,g1,m1⟩:=n1.get e1;refine⟨ck! w1 u1 q1 g1,λz H' ⟨T,p,hT,ez,eH,hp⟩=>?_⟩;subst ez eH;have e3:=hp w1 q1;rw[g1]at e3;cases e3;have cD:=vD.lay (o:=p! [aa!,u1]) ag.rep hT (by intro _ z;cases z);refine aV! Y2 cD ?_;simp only[_as];exact gR! T [aa!,u1] yu ((pc! yA (yj.one m1)).mono cD)
    ·obtain⟨w1,q1,n1⟩:=k1 H2 Y2 s2 ag og;refine aV! w1 q1 ?_;rw[n1.length];simpa only [qR] using hl
   ·exact h1.elim
  ·exact h1.elim
end
section
variable (i j k:Nat)(ρ:Ev)(s:Sto)(ar:FA)
@[simp] theorem znr:z20 ar ρ s=B! (ar ρ s) (iN! (match ds with
 | [x]=>match z8m s1 x with
  | some p=>M! (z1Y 0 p.1,p.2) | none=>.no
 | _=>.no)):=U!
end
end Dd
namespace L2
noncomputable def zmI(n:Nat):aG!:=aR! n (λk=>V.int (Z! k))
theorem z5Y:∀{xs:List V}{us:List Value},iD!=x!->(∀(j:Nat) u,E! us j u->∃x,E! xs j x/\ww x u)->i7!
 | [],[],_,_=>cu! | [],_::_,h,_=>by cases h | _::_,[],h,_=>by cases h | x::xs,u::us,h,k=>by
  obtain⟨y,e,r⟩:=k 0 u (by rfl);have:y=x:=by simpa using e.symm
  subst this;exact eI! r (z5Y (by simpa using h) λj v hv=>k (j+1) v (by exact hv))
theorem zbk{p p2 pos bJ:Pos} (hc:b2!) (hg:ix! ea!) (hm:dF! ea!) (cN:oR!) (cn:dF! fr!) (ha:PA X [a] ta) (bT:A! (aw! [a]=[dY! a])) (hs:A! (aw! [fw! (fF! fr!) [a] [] bJ]=dY! (fw! (fF! fr!) [a] [] bJ)::aw! [])) (au:d4! [] (·.1)): S! (dl! ea! p [fw! (fF! fr!) [a] [] bJ]) (gI! (ta O H λvs H1=>∃j:Int,vs=[d! j]/\0<=j/\dv! j/\∀l,H1 l=a!->Q ez! (upd H1 l (ad! (zmI kB!))))):=by
 intro ae s O H Q I h;refine _aq (z1z I hg hm (u:=db!) (by decide +kernel) (_aa ?_ hs au) (by decide) (by decide));refine _cK (_aq (z1z I cN cn boot_range (_aa (thn (ha bJ ae s O H _ I h) λus s1 ⟨vs,H1,I1,r1,q1⟩=>?_) bT rfl) (by decide) (by decide)));obtain⟨j,e,q0,q2,q⟩:=q1;subst e;obtain⟨u,rfl,⟨t,rfl⟩⟩:=vals1 r1;refine call_range_1 (_cZ ?_);have bf:Builtin.Range.rangeSize 0 j 1=dX! kB!:=by rw[rangeSize_one];split<;>lia
 refine call_list_range hg! (IsRange.new ..) (small_one (by lia) (by lia) (by lia) (by lia)) bf (by lia) λh' tk acc c' hk hS bM=>?_;have I2:cI! H1 ({s1 with heap:=qc! ({cls:=lS!,data:=eJ! #[bx! 0 s1.toks,b7! j,bx! 1 (s1.toks+1)]}),toks:=s1.toks+1+1}):=n1! (l1! _ e);have hl:q! (zmI kB!)=kB!:=by simp[zmI]
 refine⟨w! _,upd H1 _ (ad! (zmI kB!)),I2.laid hk al! ?_,rfl,q _ (I2.hok.fresh al!)⟩;exact⟨by rw[hl];exact _H (show dv! kB! by lia) (by decide),acc.toList,c',(z5Y (by simp[bM.1,hl]) λi v hv=>by
  obtain⟨mY,rfl⟩:=bM.2 i v (by simpa using hv);have hi:i<kB!:=by
   have:=cM! hv;simp[bM.1]at this;lia
  exact⟨aa!,by simp[zmI,hi],⟨mY,by simp⟩⟩),by exact hS⟩
end L2
namespace Dd
open L2
section
variable {X:Cx}{E:XK}{a:Expr}{pos:Pos}
theorem zjv(n:Nat):fZ! H Y (ym n) (zmI n):=by
 unfold ym zmI;induction iV! with
 | nil=>exact yj.nil | cons k ks ih=>exact pc! yA ih
noncomputable def eLR(f:FA):FE:=b0! aM! (iN! (match ds with
 | [.int j]=>ab! (0<=j/\dv! j) (M! (ad! r6!)) | _=>.no))
theorem z6N{p p2 bJ:Pos} (hc:b2!)(hg:ix! ea!)(hm:dF! ea!)(cN:oR!)(cn:dF! fr!)(ha:RA X E [a] f) (bT:A! (aw! [a]=[dY! a])) (hs:A! (aw! [fw! (fF! fr!) [a] [] bJ]=dY! (fw! (fF! fr!) [a] [] bJ)::aw! []))(au:d4! [] (·.1)): V! (dl! ea! p [fw! (fF! fr!) [a] [] bJ]) (eLR f):= yk (zbk hc hg hm cN cn ha bT hs au).freeze λO H Q ⟨Y,ρ,s,r,en,h⟩=>by
  refine⟨Y,ρ,s,r,en,dc! h (λvs H1 ⟨Y1,s1,ds,stp,dn,h1⟩=>?_)⟩;split at h1
  ·rename_i j;split at h1
   ·rename_i hj;obtain⟨v,rfl,d1⟩:=z1I dn;cases yp d1;exact⟨j,rfl,hj.1,hj.2,z06 dz! h1 (zjv _)⟩
   ·exact h1.elim
  ·exact h1.elim
@[simp] theorem zoN(f:FA)(ρ:Ev)(s:Sto):eLR f ρ s=kc! (iN! (match ds with
 | [.int j]=>ab! (0<=j/\dv! j) (M! (ad! r6!)) | _=>.no)):=U!
end
noncomputable def wO(ft:FT)(fb:FS):Nat->Ev->el! Fl
 | 0,_,_=>.no | k+1,ρ,s=>B! (ft ρ s) (λb s1=>aF! b (B! f4! (λfl s2=>match fl with
   | .nx ρ'=>wO ft fb k ρ' s2 | .ct ρ'=>wO ft fb k ρ' s2 | .bk ρ'=>D! ρ' s2 | .rt d=>bD! (.rt d))) (g0! ρ))
theorem z3s: ∀{k:Nat}{ρ:Ev}{s:Sto},wO ft fb k ρ s≠.no->wO ft fb (k+1) ρ s=wO ft fb k ρ s
 | 0,ρ,s,h=>fe! h | k+1,ρ,s,h=>by
  rw[wO]at h ⊢;conv=>rhs;rw[wO]
  cases e:ft ρ s with
  | no=>rfl | ex c t=>rfl | ok b s1=>
   rw[e]at h;simp only[Rb]at h ⊢;cases b with
   | false=>rfl | true=> cases e2:f4! with
    | no=>rfl | ex c t=>rfl | ok fl s2=>
     rw[e2]at h;cases fl with
     | nx ρ'=>exact z3s h | ct ρ'=>exact z3s h | bk ρ'=>rfl | rt d=>rfl
theorem zdF(h:wO ft fb k ρ s≠.no)(hm:k<=m):wO ft fb m ρ s=wO ft fb k ρ s:=by induction hm with
 | refl=>rfl | step _ ih=>rw[z3s (by rw[ih];exact h),ih]
open Classical in
def z1x(ft:FT)(fb:FS):FS:=eO! (if h:∃k,wO ft fb k ρ s≠.no then wO ft fb h.choose ρ s else .no)
theorem z2B(h:wO ft fb k ρ s=r)(hr:r≠.no):z1x ft fb ρ s=r:=by
 subst h;have hx:∃k,wO ft fb k ρ s≠.no:=as! k hr;unfold z1x;rw[qA! hx];rcases Nat.le_total k hx.choose with z | z;·exact zdF hr z
 ·exact (zdF hx.choose_spec z).symm
theorem z6i(hp:PassesOwn (oH! X.w) X.A aX! X.xe)(hc:RT X E c ft)(hb:RSs X E dT! fb):RS X E (.While c dT! [] pos) (z1x ft fb):= kM (zkd hp hc hb) λD O H ⟨Y,ρ,s,r,en,h⟩=>by
  unfold z1x at h;split at h
  ·refine⟨λm O H=>Wst J! E H O (FlD J!) (wO ft fb m) (zik D),⟨_,Y,ρ,s,r,en,h⟩,?_⟩;rintro m O H ⟨Y,ρ,s,r,en,h⟩;cases m with
   | zero=>exact h.elim | succ m=>
    refine⟨Y,ρ,s,r,en,dc! h (λb H1 ⟨Y1,s1,b',stp,eb,h1⟩=>?_)⟩;cases (eb);cases b with
    | false=> exact okR.here (b:=ni! O) h1 stp.rep im! | true=>
     refine⟨λO' H'=>Wst J! E H' O' (FlD J!) (wO ft fb m) (zik D),λO' H' q=>⟨m,_ce _,q⟩,Y1,ρ,s1,dz!,im!,dc! h1 (λfv H2 ⟨Y2,s2,fl,ag,dn,h2⟩=>?_)⟩;cases fl with
     | nx ρ'=> cases fv with
      | nx O'=>exact⟨Y2,ρ',s2,ju!,dn,h2⟩ | _=>exact bZ! dn
     | ct ρ'=> cases fv with
      | ct O'=>exact⟨Y2,ρ',s2,ju!,dn,h2⟩ | _=>exact bZ! dn
     | bk ρ'=> cases fv with
      | bk O'=>exact okR.here (b:=ni! O') h2 ag.rep dn | _=>exact bZ! dn
     | rt d=> cases fv with
      | rt v=>exact okR.here (Q:=zik D) h2 ag.rep dn | _=>exact bZ! dn
  ·exact h.elim
end Dd
namespace PySem
open PySem.AutoSeq1 (wpAny_loadPart')
open MeetsSeq MeetsSeq2 SeqAt
theorem zeE(f:Nat->β->Sem (ForInStep β))(I:Nat->β->ev!)(Q:β->ev!)(n:Nat) (turn:∀i b s,i<n->I i b s->fG! M A (f i b) (λr s'=>match r with | .yield b'=>I (i+1) b' s' | .done b'=>Q b' s') E) (fin:∀b s,I n b s->Q b s)(b:β)(h:I 0 b s):fG! M A (forIn ([0:n]:Std.Legacy.Range) b f) Q E:=by
 rw[Std.Legacy.Range.forIn_eq_forIn_range'];refine wpAny_forIn_list f (λjC b s'=>∃i,jC=oe! i (n-i)/\i<=n/\I i b s') _ ?_ ?_ _ _ ⟨0,by simp,g1!,h⟩
 ·rintro x jC b s' ⟨i,hr,hi,hI⟩;have bx:i<n:=by
   rcases Nat.lt_or_ge i n with h | h;·exact h
   ·rw[Nat.sub_eq_zero_of_le h]at hr;simp at hr
  obtain⟨rfl,fu⟩:x=i/\jC=oe! (i+1) (n-(i+1)):=by
   rw[(show n-i=(n-(i+1))+1 from by omega)]at hr;injection hr with h1 h2;exact as! h1 h2
  refine _Z (turn x b s' bx hI) (λr s2 hr=>?_) λ_ _ h'=>h';cases r with
  | done b'=>exact hr | yield b'=>exact⟨x+1,fu,bx,hr⟩
 ·rintro b s' ⟨i,hr,hi,hI⟩;have:i=n:=by
   have:=_at List.length hr;simp at this;omega
  subst this;exact fin _ _ hI
theorem z7z(l:Addr) (items:cz!) (n:Nat) (dd:oI!) (sl:Array aS!) (x:Value) (e:eC! dR!) (j:Nat) (hj:j<hK!) (pP:e items[j]=c!) (fB:∀m (hm:m<items.size),m<j->e items[m]=r!): Meets (Builtin.«tuple.index» (dG! [ez!,x])) (λA R s=>fU! l ({cls:=dC!,dict:=dd,data:=.seq g8! n,slots:=sl})/\(∀y,y∈g8!->EqAt A.in1 s y x (e y))/\R (l7! (bx! j fQ!)) {s with toks:=fQ!+1}):= rd! (by
  obtain⟨hp,g,d,tk,os⟩:=s;obtain⟨hl,he,h⟩:=h;wp_walk using _au hl,zeE _ (λi b s'=>b.1=a!/\s'=eZ! hp g d tk/\i<=j) _ _;case turn=>
   rintro i ⟨b1,b2⟩ s' hi ⟨hb,rfl,aJ⟩;rw[(Nat.min_self _)]at hi;rw[Array.getElem?_eq_getElem hi];refine _a (he _ (Array.getElem_mem hi) m6! w _ _ ?_);rcases _aS aJ with lt | rfl
   ·wp_walk;exact aC! rfl lt
   ·wp_walk;exact aC! _ h
  case fin=> omega
  case h=>exact aC! rfl g1!)
end PySem
namespace L2
section
variable {X:Cx}{o e:Expr}{to:TE}{t:TA}{name:Str}{ao ak:Pos}{id:String}{r:V->aG!->Hp->eA!}
theorem zoC(slot:Slot cV! iJ! id)(gL:typeOf (.builtin id)=dS! (ar! "method_descriptor"))(hm:MtR X id r)(ho:S! o to)(ha:PA X [e] t) (am:A! (lO! o iJ! gw!=gw!)) (aH:dg! (hs! (hP! ak [e]) (! x.1)&&hs! (nA! ak []) (iF! x.1) && bw! (q! [e]+q! ([]:gO!)+(np! ([]:gO!) 0 1)<30))) (ai:dg! pS!)(hs:A! (aw! [e]=dQ!::aw! []))(aw:A! ((hP! ak []).any (·.1)=r!)): S! (fw! (mz! o iJ!) [e] [] ak) (gI! (to O H (hG! ((∃p vs,x=b6!/\H1 p=b! (p! vs))/\t O H1 λxs H2=>r x xs H2 Q)))):=by
 refine iI! (_b3 am aH ai rfl (thn (ho ae s O H _ I h) λv s1 ⟨x,H1,I1,r1,ty,q1⟩=>?_));obtain⟨p,vs,rfl,hp⟩:=ty;cases r1;obtain⟨_,af,_,ob,e1,c1,d1,n,w1⟩:=I1.hok p _ hp;refine⟨cV!,id,PySem.F.plainAttrs_tuple,slot,gL,aV! ob e1 c1,λa e=>?_,?_⟩
 ·cases e;exact aV! ob e1 d1
 have hA:=ha ak ae s1 O H1 _ I1 q1;rw[hs]at hA ⊢;exact _b4 (by show (r!||(hP! ak []).any (·.1))=r!;rw[aw]<;>rfl) (_by (thn hA λus s2 ⟨vs,H2,I2,r2,q2⟩=>hm ae s2 O H2 b6! vs _ us Q I2 rfl r2 q2))
theorem z3P:∀{ns:List Int}{af:List Value},xl hQ! af->rw! af
 | [],_,.nil=>cu! | n::ns,_,.cons r rs=>by
  obtain⟨t,rfl⟩:=r;exact .cons n t (z3P rs)
def ztz:V->aG!->Hp->eA!:=λx vs H Q=>∃(p:Addr)(ns:List Int)(k:Int),x=b6!/\vs=[d! k]/\H p=b! (p! hQ!)/\k∈ns/\Q (d! (pR!:Nat)) H
theorem zcT:MtR X "tuple.index" ztz:=by
 intro ae s O H x vs v us Q I rx rv h;obtain⟨p,ns,k,rfl,rfl,hp,hk,q⟩:=h;cases rx;obtain⟨u,rfl,⟨t,rfl⟩⟩:=vals1 rv;obtain⟨_,af,r,ob,e1,c1,d1,n,w1⟩:=gV! p hp;have hi:=z3P r;have ap:=hi.length;have hj := List.idxOf_lt_length_iff.mpr hk;obtain⟨cls,dd,data,sl⟩:=ob;simp only at c1 d1 w1;subst c1 d1 w1;refine _bi PySem.F.slot_tuple_index (b5! e1) PySem.F.entry_tuple_index (PySem.F.args_tuple_index_2 _ _) (z7z p fs! n _ sl (b7! k) (isInt k) pR! (by simpa[ap] using hj) ?_ ?_) ⟨e1,cW! ((eq_isInt k t hi y (by simpa using hy)).at _ _),?_⟩
 ·show isInt k af[pR!]=c!;rw[isInt_at k hi _ (by omega) hj];simpa using _cP hj
 ·intro j mZ bx;show isInt k af[j]=r!;rw[isInt_at k hi j (by simpa using mZ) (by omega)];exact ne_of_lt_idxOf bx _
 ·exact⟨d! (pR!:Nat),H,mf! (gG! e),co! fQ!,q⟩
end
end L2
namespace Dd
open L2
section
variable {X:Cx}{E:XK}{o e:Expr}{pos:Pos}
noncomputable def zlH(fo fv:FE):FE:=b0! (fo ρ s) (λo s1=>match o with
 | .tup ds=>B! (fv ρ s1) (λd s2=>match qw! ds,d with
  | some ns,.int k=>ab! (k∈ns) (bD! (d! (pR!:Nat))) | _,_=>.no)
 | _=>.no)
theorem zcR{ao:Pos} (ho:V! o fo)(hv:fp! fv)(am:A! (lO! o "index" gw!=gw!)) (aH:dg! (hs! (hP! pos [e]) (! x.1)&&hs! (nA! pos []) (iF! x.1) && bw! (q! [e]+q! ([]:gO!)+(np! ([]:gO!) 0 1)<30))) (ai:dg! (sk! n0!))(hs:A! (aw! [e]=dQ!::aw! []))(aw:d4! [] (·.1)): V! (fw! (mz! o "index") [e] [] pos) (zlH fo fv):= yk (zoC PySem.F.slot_tuple_index PySem.F.type_tuple_index zcT ho (wz hv z0y hs) am aH ai hs aw) λO H Q ⟨Y,ρ,s,r,en,h⟩=>by
  refine⟨Y,ρ,s,r,en,dc! h (λov H1 ⟨Y1,s1,od,stp,dn,h1⟩=>?_)⟩;cases od with
  | tup ds=>
   refine as! (by
    obtain⟨a,vs,rfl,e1,_⟩:=dn;exact fg! a vs e1) ⟨Y1,ρ,s1,dz!,im!,dc! h1 (λv H2 ⟨Y2,s2,d,ag,ax,h2⟩=>?_)⟩;split at h2
   ·rename_i ns k ei;split at h2
    ·rename_i hk;obtain⟨a,vs,rfl,e1,e2⟩:=lV!;rw[z07 ei]at e2;cases z09 e2;cases yp ax;exact⟨a,ns,k,rfl,rfl,e1,hk,n8! h2 ju! yA⟩
    ·exact h2.elim
   ·exact h2.elim | _=>exact h1.elim
@[simp] theorem zoz (fo fv:FE)(ρ:Ev)(s:Sto):zlH fo fv ρ s=B! (fo ρ s) (λo s1=>match o with
 | .tup ds=>B! (fv ρ s1) (λd s2=>match qw! ds,d with
  | some ns,.int k=>ab! (k∈ns) (bD! (d! (pR!:Nat))) | _,_=>.no)
 | _=>.no):=U!
end
def zpn(P:Program)(w:World)(K:W.Frag)(mg:Str->aS!)(x:Str)(tb:mT!):g!:= ∃a o es ep,fn! x ac!/\(a==sysModules)=r!/\oK!=b! o/\o.ExactDict/\ib!=.dict es ep/\PySem.KeysOf (xW P w) es/\ (∀k y,my!=b! y->∃f,pf! (xW P w).is es (Q! k)=b! fj!/\fn! y fj!)/\∀k,my!=a!->pf! (xW P w).is es (Q! k)=a!
theorem zai(r:ww (aI! k) u):(xW P w).is (Q! k) u=c!:=by
 obtain⟨t,e⟩:=(r);subst e;exact z6S k t
section
variable {X:Cx}{E:XK}{e a b c:Expr}{es:aE!}{pos:Pos}{CX:CXT}
theorem zdj{O:L2.St} (I:K!)(hk:X.K.lookup d=b! o)(hx:o.ExactDict)(hd:ib!=.dict en ep)(ks:PySem.KeysOf (xW aT! X.w) en): s.heap.MapOf (xW aT! X.w) d (λk=>pf! (xW aT! X.w).is en k):=⟨o,en,ep,I.kIn d o hk,hx,hd,ks,bf! rfl⟩
noncomputable def zsL(tb:mT!)(f:FE):FE:=eO! (d5! (match d with
 | .str k=>match my! with | some y=>M! (.fn y) | none=>.no
 | _=>.no))
theorem zrL(hT:zpn aT! X.w X.K fu! x tb)(hg:e7!)(he:fp! f)(hs:zcF e)(aG:ce! (x==cH!)): V! (mw! (fC! p) e) (zsL tb f):=by
 obtain⟨d,o,en,ep,hm,k7,hk,hx,hd,ks,h1,h2⟩:=hT;refine yk (zpo (r:=λv y H Q=>v=w! d/\∃k g,y=aI! k/\pf! (xW aT! X.w).is en (Q! k)=b! (w! g)/\Q (w! g) H) ?_ (z6J hg hm (show ww (w! d) (w! d) from rfl) aG) he hs) λO H Q ⟨Y,ρ,s,r,en',h⟩=>?_
 ·intro bg slice ae s O H v y u u2 Q I rx ry h bT;obtain⟨rfl,k,g,rfl,hf,q⟩:=h;cases rx;have mp:=zdj I hk hx hd ks;exact _b2 mp.typeIs PySem.F.slot_dict_getitem.lookup (wpAny_getItem_of (zai ry) mp hf ⟨rfl,w! g,H,it!,rfl,q⟩) bT
 ·refine⟨Y,ρ,s,r,en',dc! h (λv H1 ⟨Y1,s1,dd,stp,dn,q⟩=>?_)⟩;split at q
  ·rename_i k;split at q
   ·rename_i y hy;obtain⟨g,e1,e2⟩:=h1 k y hy;cases z08 dn;exact⟨rfl,k,g,rfl,e1,n8! q dz! (aC! g e2)⟩
   ·exact q.elim
  ·exact q.elim
noncomputable def zho(tb:mT!)(cb:Bool)(f:FE):FE:=eO! (d5! (match d with
 | .str k=>M! (.bl (xor cb (iF! my!))) | _=>.no))
theorem znt(hT:zpn aT! X.w X.K fu! x tb)(hg:e7!)(he:fp! f)(m3:A! (behindInMarks .In (fC! p)=r!))(aG:ce! (x==cH!)): V! (.Compare e [.In] [fC! p] pos) (zho tb r! f):=by
 obtain⟨d,o,en,ep,hm,k7,hk,hx,hd,ks,h1,h2⟩:=hT;refine yk (zhy (r:=λy v H Q=>v=w! d/\∃k,y=aI! k/\Q (.bl (iF! (pf! (xW aT! X.w).is en (Q! k)))) H) ?_ he (z6J hg hm (show ww (w! d) (w! d) from rfl) aG) m3) λO H Q ⟨Y,ρ,s,r,en',h⟩=>?_
 ·intro ae s O H y v u u2 Q I ry rx h;obtain⟨rfl,k,rfl,q⟩:=h;cases rx;exact wpAny_in_of (zai ry) k7 (zdj I hk hx hd ks) (bn! (.bl _) H it! q)
 ·refine⟨Y,ρ,s,r,en',dc! h (λv H1 ⟨Y1,s1,dd,stp,dn,q⟩=>?_)⟩;split at q
  ·rename_i k;cases z08 dn;exact fg! rfl k (n8! q dz! (by change V.bl _=V.bl _;simp[(show iF! (pf! (xW aT! X.w).is en (Q! k))=iF! my! from by cases z:my! with
    | none=>rw[h2 k z];rfl | some y=>obtain⟨g,e1,_⟩:=h1 k y z;rw[e1];rfl)]))
  ·exact q.elim
noncomputable def zdx(i:Nat)(Ms:dD! Mir)(f:FA):FE:=eO! (match ρ[i]? with
 | some (some (.fn y))=>match rj! with
  | some M=>kc! (jt! (M xs s1)) | none=>.no
 | _=>.no)
theorem zns(i:Nat) {p:Pos} {Ms:dD! Mir} (F:∀y M,rj!=b! M->Has aT! X.w X.K fu! fb! CX y n M) (hr:z1U n X.A) (ig:kW! X E) (ha:RA X E (e::es) f) (hN:A! (gr! x)) (hv:sy! x:=by first | exact bB! | exact Or.inr bB! | exact Or.inr bN!) (hd:ce! (x==cH!)) (bC:ce! (x==l! "__classdict__")) (he:A! (aw! (e::es)=dQ!::iw!)) (au:d4! es (·.1)):V! (dl! x p (e::es)) (zdx i Ms f):=by
 intro ae s O H Q I ⟨Y,ρ,st,r,en,h⟩;unfold zdx at h;split at h
 ·rename_i y hy;split at h
  ·rename_i M hM;obtain⟨v,m4,dv⟩:=en.at_ i (.fn y) hy;obtain⟨g,rfl,cX⟩:=dv;obtain⟨fa,fd,ps,Fk,hb,hk,hm⟩:=F y M hM;have e0:g=fa:=by cases cX.symm.trans hm;rfl
   subst e0;refine _aq (thn (zl7 hN hv hd bC ae s O H (λv H1=>v=w! g/\H1=H) I (fg! (w! g) m4 rfl)) λu s1 ⟨v,H1,I1,r1,e1,e2⟩=>?_);subst e1 e2;cases r1;exact _dF I1.ok.mod.kin hk (thn (ha pos ae s1 O H1 (λvs H2=>ziT J! M (vs++[]) H2 Q E) I1 (qh (k:=nh! (M xs s1)) r en h _ λvs H2 Y2 s2 ds r2 aX ax ag h3=>by
    rw[_aK];exact⟨Y2,s2,ds,r2,ax,h3⟩)) λus s2 ⟨vs,H2,I2,r2,q⟩=>as! I2.kIn (zep Fk hr hb cu! ig I2 r2 q)) he au
  ·exact h.elim
 ·exact h.elim
@[simp] theorem ztZ(tb:mT!)(f:FE)(ρ:Ev)(s:Sto):zsL tb f ρ s=d5! (match d with
 | .str k=>match my! with | some y=>M! (.fn y) | none=>.no
 | _=>.no):=U!
@[simp] theorem zr4(tb:mT!)(cb:Bool)(f:FE)(ρ:Ev)(s:Sto):zho tb cb f ρ s=d5! (match d with
 | .str k=>M! (.bl (xor cb (iF! my!))) | _=>.no):=U!
@[simp] theorem zjG (i:Nat)(Ms:dD! Mir)(f:FA)(ρ:Ev)(s:Sto):zdx i Ms f ρ s=match ρ[i]? with
 | some (some (.fn y))=>match rj! with
  | some M=>kc! (jt! (M xs s1)) | none=>.no
 | _=>.no:=U!
end
theorem vD.cut(stp:vD mg H Y H1 Y1 s1):vD mg H Y H1 rQ! (qB! qq!):=by
 have dk:DkS H1 Y1 H1 rQ!:=λb hb ah e=>gT! (_S hb);refine⟨⟨by simp[stp.rep.len],stp.rep.nd.sublist (_c0 _ _),λj ys h=>?_,λys h=>stp.rep.flat ys (_S h),λb h z=>stp.rep.own b (dk.own h) (_S z),dk.uq dz!⟩,?_,stp.keep,λc h1 h2=>stp.new c (_S h1) h2,stp.mt,stp.dom,λb h=>stp.ow b (dk.own h)⟩
 ·have hj:j<qq!:=by
   have:=cM! h;simp at this;lia
  rw[_ak hj]at h ⊢;obtain⟨c,q1,q2⟩:=stp.rep.cell j ys h;exact⟨c,q1,q2.flatten (λ_ _ h _ _ _=>h) (stp.rep.flat _ (_w h)) rfl (_w q1) stp.rep.own (λ_ _ _ q=>q)⟩
 ·obtain⟨t,ht⟩:=stp.pre;exact⟨[],by rw[<- ht];simp⟩
theorem vD.frzC(stp:vD mg H Y H1 Y1 s1) (hl:qq!<=l)(hx:E! s1 l xs)(e1:E! Y1 l a)(ka:IsL H1 a):∃vs,H1 a=L! vs/\ ∀o,vD mg H Y (upd H1 a (d2! cp!)) rQ! (qB! qq!)/\rc! (upd H1 a (d2! cp!)) rQ! cq! ac!:=by
 obtain⟨vs,e2,e3⟩:=stp.rep.at_ hx e1 ka;refine⟨vs,e2,λo=>?_⟩;have an:a∉Y:=λz=>by
  obtain⟨j,hj,ej⟩:=ge! z;obtain⟨t,ht⟩:=stp.pre;have:=(_a0 stp.rep.nd).mp (a4! (nY! (by rw[<- ht,_I hj,_b hj,ej])).2 ((nY! e1).2).symm);lia
 have a0 := stp.new a (_w e1) an;have k:∀b u,H1 b=b! u->(∀vs,u≠cp!)->(∀ah,u≠lf!)->(∀ah,a3! ah->u≠gW!)->upd H1 a (d2! cp!) b=b! u:=λb u h hn _ _=>by rw[zJ (λz=>by subst z;rw[e2]at h;exact hn vs (_p h).symm)];exact h
 have dk:DkS H1 Y1 (upd H1 a (d2! cp!)) rQ!:=λb hb ah e=>by
  by_cases z:b=a;·subst z;rw[yu]at e;cases e
  ·rw[zJ z]at e;exact gT! (_S hb)
 have mem:∀{j:Nat}{ys:List D},E! s1 j ys->da! ys:=λe=>stp.rep.flat _ (_w e);refine as! ⟨⟨by simp[stp.rep.len],stp.rep.nd.sublist (_c0 _ _),λj ys h=>?_,λys h=>stp.rep.flat ys (_S h),λb h z=>stp.rep.own b (dk.own h) (_S z),dk.uq dz!⟩,?_,λb u h n g=>?_,λc h1 h2=>stp.new c (_S h1) h2,cl! ?_,λb h=>stp.dom b (z9D h),λb h=>stp.ow b (dk.own h)⟩ ?_
 ·have hj:j<qq!:=by
   have:=cM! h;simp at this;lia
  rw[_ak hj]at h ⊢;obtain⟨c,q1,q2⟩:=stp.rep.cell j ys h;refine⟨c,q1,q2.flatten k (mem h) (zJ λz=>?_) (_w q1) stp.rep.own (λb vs hb q=>by rw[zJ (show b≠a from λz=>hb (z ▸ _w e1))];exact q)⟩;subst z;have:=(_a0 stp.rep.nd).mp (a4! (nY! q1).2 ((nY! e1).2).symm);lia
 ·obtain⟨t,ht⟩:=stp.pre;exact⟨[],by rw[<- ht];simp⟩
 ·rw[zJ (λz=>by subst z;rw[a0]at h;cases h)];exact stp.keep b u h n g
 ·have ne:b≠a:=λz=>an (z ▸ hb);rcases stp.mt b hb with⟨q1,q2⟩ | ⟨q1,q2,q3⟩;·exact y! ⟨q1,by rw[IsL,zJ ne];exact q2⟩
  ·exact Q! ⟨q1,by rw[IsC,zJ ne];exact q2,λo u z=>by rw[zJ ne];exact q3 o u z⟩
 ·exact⟨a,o,vs,rfl,yu,(λf h=>h.flatten k f) (mem hx) e3⟩
noncomputable def zpg(n:Nat):R D->R D
 | .ok (.loc l) s1=>match s1[l]? with
  | some xs=>ab! (n<=l) (.ok cq! (qB! n)) | none=>.no
 | .ok _ _=>.no | .ex c s1=>.ex c s1 | .no=>.no
noncomputable def z4I(f:FE):FE:=eO! (zpg cm! aM!)
section
variable {X:Cx}{E:XK}{e:Expr}
theorem zhI(h:fp! f):fp! (z4I f):= yk (PE.freeze h) λO H Q ⟨Y,ρ,s,r,en,h⟩=>by
  refine⟨Y,ρ,s,r,en,?_⟩;unfold z4I zpg at h;split at h
  ·rename_i l s1 e1;rw[e1];split at h
   ·rename_i xs ex;split at h
    ·rename_i hl;intro v H1 Y1 stp dn;obtain⟨a,rfl,q1,ka⟩:=dn;obtain⟨vs,q2,q3⟩:=stp.frzC (by rw[r.len];exact hl) ex q1 ka;rw[<- r.len]at h;exact gR! a vs q2 (λo=>h _ _ _ (q3 o).1 (q3 o).2)
    ·exact h.elim
   ·exact h.elim
  ·exact h.elim
  ·rename_i e1;rw[e1];exact h
  ·exact h.elim
end
@[simp] theorem z2W(f:FE)(ρ:Ev)(s:Sto):z4I f ρ s=zpg cm! aM!:=U!
@[simp] theorem z9P: zpg cm! (gs! (s++[xs]))=j! cq!:=by simp[zpg]
noncomputable def zew(n:Nat):R D->R D
 | .ok (.loc l) s1=>am! (l<n) (.ok dK! (qB! n)) (M! dK!) | .ok d s1=>am! mJ! (.ok d (qB! n)) (M! d) | r=>r
noncomputable def z4X(M:Mir):Mir:=λds s=>zew cm! (M ds s)
theorem zmm(h:ziT mg (z4X M) vs H Q E):ziT mg M vs H Q E:=by
 obtain⟨Y,s,ds,r,dn,h⟩:=h;refine⟨Y,s,ds,r,dn,?_⟩;unfold z4X zew at h;split at h
 ·rename_i l s1 e;rw[e];split at h
  ·rename_i hl;intro v H1 Y1 stp dv;rw[<- r.len]at h;refine h v H1 _ stp.cut ?_;obtain⟨a,rfl,e1,ka⟩:=dv;exact mE! a (by rw[_ak (by rw[r.len];exact hl)];exact e1) ka
  ·exact h
 ·rename_i d s1 hn e;rw[e];split at h
  ·rename_i hf;intro v H1 Y1 stp dv;rw[<- r.len]at h;exact h v H1 _ stp.cut (dv.flatten (λ_ _ h _ _ _=>h) hf)
  ·exact h
 ·exact h
section
variable {P:Program}{w:World}{K:W.Frag}{mg:Str->aS!}{base:Heap}
theorem Has.tidy(h:Has P w K mg O! CX x n M):Has P w K mg O! CX x n (z4X M):=by
 obtain⟨f,fd,ps,F,r⟩:=h;exact⟨f,fd,ps,F.imp (qz! (zmm h)),r⟩
end
@[simp] theorem z6k(M:Mir)(ds:v!)(s:Sto):z4X M ds s=zew cm! (M ds s):=U!
@[simp] theorem z11(h:mJ!):zew n (M! d)=.ok d (qB! n):=by cases d<;>first | exact nomatch (h:r!=c!) | simp[zew,h]
def zqZ:D->D->bl!
 | x,.int k,s=>match l4! x with
  | some xs=>ab! (x!*dU!<=cap/\-(2 ^ 62)<=k/\k<2 ^ 62) (bt! (hO! dU! xs)) | none=>.no
 | _,_,_=>.no
theorem yj.flat_rep(h:ht!):∀k:Nat,fZ! H Y (hO! k xs) (hO! k vs)
 | 0=>by simpa using yj.nil | k+1=>by
  rw[_aR,_aR,_bw,_bw];exact h.append (h.flat_rep k)
section
variable {X:Cx}{E:XK}
theorem zsX:∃r,ny! r/\cS! zqZ:=by
 refine bM! zkT.freeze ?_;intro H Y s d1 d2 v1 v2 Q r h1 h2 h;unfold zqZ at h;split at h
 ·rename_i k;cases yp h2;split at h
  ·rename_i xs hx;split at h
   ·rename_i hl;obtain⟨l,vs,e,q1,q2⟩:=yn r hx h1;exact⟨l,k,vs,e,rfl,q1,by lia,by lia,by rw[q2.length];exact kO hl.1,z06 r h (q2.flat_rep _)⟩
   ·exact h.elim
  ·exact h.elim
 ·exact h.elim
end
section
variable {X:Cx}{E:XK}{e a b c:Expr}{es:aE!}{pos:Pos}{CX:CXT}
theorem zmC(F:Has aT! X.w X.K fu! fb! CX x n M)(hr:z1U n X.A)(hx:kW! X E)(hg:e7!)(aG:ce! (x==cH!)):V! (dl! x p []) (ze M zj):=by
 obtain⟨fa,fd,ps,F,hb,hk,hm⟩:=F;exact yk (ziw F hr hg hm hk hb cu! hx aG) λO H Q ⟨Y,ρ,s,r,en,h⟩=>⟨Y,s,[],r,yj.nil,h⟩
end
section
variable {P:Program}{w:World}{K:W.Frag}{mg:Str->aS!}{base:Heap}{CX:CXT}{n:Nat}
noncomputable def zi9:d9! DictEntry->dD! dR!
 | []=>[] | e::es=>match e.key with
  | .str k _=>(k,e.val)::zi9 es | _=>zi9 es
theorem z3e{P:Program} {w:World} : ∀{es:List DictEntry},pf! (xW P w).is es.toArray (Q! k)=o9! (zi9 es) k
 | []=>by simp[findBy,zi9] | e::es=>by
  have ih:=z3e (P:=P) (w:=w) (k:=k) (es:=es);simp only[findBy,List.find?_toArray]at ih ⊢;rw[List.find?_cons];cases hk:e.key with
  | str y t=>
   simp only[zi9,hk,_X];by_cases z:k=y
   ·subst z;simp[zch]
   ·rw[(show (xW P w).is (Q! k) (.str y t)=r! from by
     rw[z7V];cases q:zcH (Q! k) (.str y t) with
     | false=>rfl | true=>
      rcases yT q with⟨i,u,h1,h2⟩ | ⟨x,u,h1,h2⟩;·cases h2
      ·cases h1;cases h2;exact fe! z),show (k==y)=r! from by simpa using z];exact ih | _=>
   simp only[zi9,hk,(show (xW P w).is (Q! k) e.key=r! from by
    rw[z7V];cases q:zcH (Q! k) e.key with
    | false=>rfl | true=>
     rcases yT q with⟨i,u,h1,h2⟩ | ⟨x,u,h1,h2⟩;·cases h1
     ·rw[hk]at h2;cases h2)];exact ih
theorem zdk:∀y M,i0! ([]:dD! Mir) y M->Has P w K mg O! CX y n M:=λy M h=>by simp at h
theorem jH(h:Has P w K mg O! CX x n M0)(hs:∀y M,rj!=b! M->Has P w K mg O! CX y n M):∀y M,i0! ((x,M0)::Ms) y M->Has P w K mg O! CX y n M:=λy M e=>by
 rw[_X]at e;split at e
 ·rename_i hb;cases e;have:y=x:=by simpa using hb
  subst this;exact h
 ·exact hs y M e
end
def Sub(K:W.Frag)(h:Heap):g!:=∀p∈K,eu! p.1 p.2
theorem Sub.in_{K:W.Frag} (s:Sub K h):hr!:=λa o e=>by induction K with
 | nil=>simp at e | cons p K ih=>
  obtain⟨b,u⟩:=p;rw[_X]at e;split at e
  ·rename_i hb;cases e;have:a=b:=by simpa using hb
   subst this;exact s (a,o) (by simp)
  ·exact ih (λq hq=>s q (by simp[hq])) e
theorem z9c(h:Heap)(a:Addr):Sub (zce h a) h:=bq! (by
 unfold zce at hp;split at hp
 ·rename_i o e;simp at hp;subst hp;exact e
 ·simp at hp)
theorem Sub.app{K L:W.Frag} (a:Sub K h)(b:Sub L h):Sub (K++L) h:=bq! (mK! hp (a p) (b p))
theorem zm4(h:Heap)(ns:aq!):Sub (gat h ns) h:=by
 refine (z9c h _).app (bq! ?_);obtain⟨x,_,hx⟩:=List.mem_flatMap.mp hp;unfold zuf at hx;split at hx
 ·rcases nX! hx with hx | hx;·exact z9c h _ p hx
  ·split at hx
   ·split at hx;·exact z9c h _ p hx
    ·simp at hx
   ·exact z9c h _ p hx
   ·simp at hx
 ·simp at hx
def zu6(K:W.Frag)(x:Str)(st:Stmt):g!:=∃f fd,gl! K x=b! (b! fj!)/\Fun K x x st f fd
theorem dA(s:Stmt):dArgs s=jp s:=by cases s<;>rfl
theorem dB(s:Stmt):zpk s=xE s:=by cases s<;>rfl
theorem dS(s:Stmt):zkY s=zi s:=by cases s<;>rfl
theorem zmR{K:W.Frag} {st:Stmt}(h:zjS K x=zr1 x st):zu6 K x st:=by
 unfold zjS zr1 at h;split at h
 ·rename_i f hf;split at h
  ·rename_i oc od fd sl hl;simp only[_y,_br]at h;obtain⟨h1,h2,h3,h4,h5,h6,h7,h8,h9,k8,gc⟩:=h;obtain⟨a1,a2,a3,a4,a5,a6,a7,a8,a9,a10,a11,a12,a13,ii,ij⟩:=fd;simp only at h1 h2 h3 h4 h5 h6 h7 h8 h9 k8;subst h1 h3 h4 h5 h6 h7 h8 h9;subst h2;exact⟨f,_,hf,zqf hl k8 gc⟩
  ·cases h
 ·cases h
theorem ziJ{K:W.Frag} (h:zmO K x=c!):gl! K x=b! a!:=by
 unfold zmO at h;split at h;·rename_i e;exact e
 ·cases h
theorem zkg{K:W.Frag} (h:zo4 K x=h0!):∃t,gl! K x=b! (b! (b7! i)):=by
 unfold zo4 at h;split at h;·rename_i j t e;cases h;exact gT! t
 ·cases h
theorem zdl{K:W.Frag} (X:hr!)(G:oA! mg):∀{es:List DictEntry}{tb:List (Str×Str)},zeu K es (tb.map (·.2))=tb.map (λp=>(PyData.keyHash r8! p.1,b! p.1,c!))-> PySem.KeysOf (xW P w) es.toArray/\(∀k y,my!=b! y->∃f,i0! (zi9 es) k fj!/\fn! y fj!)/\∀k,my!=a!->o9! (zi9 es) k=a!
 | [],[],_=>⟨λe he=>by simp at he,λk y h=>by simp at h,λk _=>by simp[zi9]⟩ | [],_::_,h=>by simp[zeu]at h | _::_,[],h=>by simp[zeu]at h | e::es,(k0,y0)::tb,h=>by
  simp only[_u,zeu,List.cons.injEq,_br]at h;obtain⟨⟨h1,h2,h3⟩,h4⟩:=h;obtain⟨i1,i2,i3⟩:=zdl (P:=P) X G h4;obtain⟨hh,kk,vv⟩:=e;simp only at h1 h2 h3;cases kk with
  | str ks t=>
   simp only[zhO,_y]at h2;subst h2;obtain⟨f,rfl,e1⟩:=(show ∃f,vv=fj!/\gl! K y0=b! (b! fj!) from by
    unfold sameRef at h3;split at h3
    ·rename_i f g e1;have:f=g:=by simpa using h3
     subst this;exact aC! f e1
    ·cases h3);refine⟨λe he=>?_,λk y hy=>?_,λk hy=>?_⟩
   ·simp only[_du,_J]at he;rcases he with rfl | he;·exact⟨Q! ks,z6S ks t,h1⟩
    ·exact i1 e (by simpa using he)
   ·simp only[zi9,_X]at hy ⊢;by_cases z:k=ks
    ·subst z;simp at hy ⊢;subst hy;exact W.mg_of X G e1
    ·rw[show (k==ks)=r! from by simpa using z]at hy ⊢;exact i2 k y hy
   ·simp only[zi9,_X]at hy ⊢;by_cases z:k=ks;·subst z;simp at hy
    ·rw[show (k==ks)=r! from by simpa using z]at hy ⊢;exact i3 k hy | _=>simp[zhO]at h2
theorem zme{K:W.Frag} (X:hr!)(G:oA! mg)(e:znl K x (tb.map (·.2))=zrI w tb):zpn P w K mg x tb:=by
 unfold znl zrI at e;split at e
 ·rename_i a ha;split at e
  ·rename_i c d es ep sl hl;simp only[_y,_br]at e;obtain⟨e1,e2,e3,e4,e5⟩:=e;obtain⟨i1,i2,i3⟩:=zdl X G e5;have hs:sl=#[]:=Array.eq_empty_of_size_eq_zero (by simpa using e3);refine⟨a,_,es,ep,W.mg_of X G ha,e4,hl,aV! (by
    unfold zaU at e1;split at e1
    ·rename_i n;have:n=nB!:=by simpa using e1
     rw[this]
    ·cases e1) (by simpa using e2) hs,rfl,i1,λk y hy=>?_,λk hy=>?_⟩;·rw[z3e];exact i2 k y hy
   ·rw[z3e];exact i3 k hy
  ·cases e
 ·cases e
def saysS(q:Ask)(w:World)(h:Heap):g!:=∃K:W.Frag,hr!/\zdD q K=jb! q
theorem zlY(q:Ask)(w:World)(s:Shared)(e:obsS q s=jb! q):saysS q w F!:=bM! (zm4 _ _).in_ e
theorem zf0(q:Ask)(w:World)(h h':Heap)(x:saysS q w h)(k:bG! (cG! b->dw! b)):saysS q w h':=let ⟨K,a,b⟩:=x;⟨K,a.keeps k,b⟩
theorem z8C{α β:bL!}{f g:α->β}:∀{l:List α},mN!=mO!->∀x∈l,f x=g x:=λh x hx=>List.map_inj_left.mp h x hx
theorem zto{K:W.Frag}(e:zdD q K=jb! q)(x:Str)(st:Stmt)(hx:(x,st)∈q.fs):zu6 K x st:=zmR (z8C (_at se! e) (x,st) hx)
theorem zs0{K:W.Frag}(e:zdD q K=jb! q)(x:Str)(hx:x∈q.bs):gl! K x=b! a!:=ziJ (z8C (_at (λz=>z.2.1) e) x hx)
theorem ztB{K:W.Frag}(e:zdD q K=jb! q)(x:Str)(i:Int)(hx:(x,i)∈q.cs):∃t,gl! K x=b! (b! (b7! i)):=zkg (z8C (_at (λz=>z.2.2.1) e) (x,i) hx)
theorem zrz{K:W.Frag} (X:hr!)(G:oA! mg)(e:zdD q K=jb! q)(x:Str)(tb:mT!)(hx:(x,tb)∈q.ts):zpn P w K mg x tb:=zme X G (z8C (_at (λz=>z.2.2.2.1) e) (x,tb) hx)
theorem zhv{Ya:World->α} (row:String) (bo:∀w:World,jR! (W.fencedOpening r9! p w N) (F!,s.gens,s.drawn,fQ!)=b! (j8!,jD!,p1!,p2!)) (hf:ov! (jR! (sE! p (sv! r!) N (eZ! j8! jD! p1! p2!)) (W.openSeen q n6! sg! Xt g0 s,Yf s)) (W.openGood q n6!,Ya (sv! r!))) (ht:ov! (jR! (sE! p (sv! c!) N (eZ! j8! jD! p1! p2!)) (W.openSeen q n6! sg! Xt g0 s,Yf s)) (W.openGood q n6!,Ya (sv! c!))):W.LeftO p q n6! Xt Yf Ya N g0:= W.LeftO.of_split row λw=>by
  obtain⟨⟨h,gs,d,k,os⟩,e,e'⟩:=qx! (bo w);obtain⟨rfl,rfl,rfl,rfl⟩:h=j8!/\gs=jD!/\d=p1!/\k=p2!:=by simpa only [_br] using e'
  rw[e,_ag,hf w os,ht w os]
theorem zaT: ∀{n:Nat}{s s':W.SharedT}{t:Thread},z6W tb p w n₀ dy n s t=b! s'->W.topRun tb p w n₀ dy n iB! t=b! s'.abs
 | 0,_,_,_,h=>by cases h | n+1,s,s',t,h=>by
  unfold z6W at h;unfold W.topRun;cases he:W.through t with
  | true=>rw[he]at h;cases h;rfl | false=>
   rw[he]at h;cases hk:W.stepOk n₀ dy t with
   | false=>rw[hk]at h;cases h | true=>
    rw[hk]at h;cases hs:W.stepT (denote tb) p w s t with
    | none=>rw[hs]at h;cases h | some r=>rw[hs]at h;rw[W.stepT_spec hs];exact zaT h
theorem z7W{os:OsState} (ha:W.absHeap t0 m₀ h.life=h) (sz:(h.isNs ma!&&(jD!:rU!).size==0,jk!,h.nsMap ma! "__annotations__")=(c!,m₀,dy)){α:bL!}{f:nR!->α}{v:α} (hr:(z6W r9! p w m₀ dy N ⟨t0,m₀,h.life,jD!,d,k,os⟩ (W.topStub p)).map (λsT=>(W.staticsOk sg! h qC!&&W.namesBound p qC!&&W.gensDone sT.abs&&W.laidKept h qC!,f sT.abs))=b! (c!,v)): (sE! p w N (eZ! h jD! d k)).map f=bP!:=by
 obtain⟨sT,e1,e2⟩:=qx! hr;obtain⟨e3,e4⟩:=Prod.mk.inj e2;obtain⟨z1,z2,z3⟩:_/\_/\_:=by simpa only [_br] using sz
 have r:=zaT e1;rw[(show (⟨t0,m₀,h.life,jD!,d,k,os⟩:pZ!).abs=eZ! h jD! d k from by
  show (eZ! (W.absHeap t0 m₀ h.life) jD! d k:nR!)=_;rw[ha])]at r;have t:sE! p w N (eZ! h jD! d k)=b! sT.abs:=by
  unfold W.topFrom;rw[z1,z2,z3,r];show (match (W.staticsOk sg! h qC!&&W.namesBound p qC!&&W.gensDone sT.abs&&W.laidKept h qC!) with | true=>b! sT.abs | false=>none)=_;rw[e3]
 rw[t,_ag,e4]
theorem zbP{α β γ δ:bL!}{r:bm! α}{f:α->β}{g:α->γ}{k:α->δ}{x:β}{y:γ}{z:δ}(h1:nd! (λs=>(f s,k s))=b! (x,z))(h2:nd! g=b! y):nd! (λs=>(f s,(g s,k s)))=b! (x,(y,z)):=by
 obtain⟨s,e1,e2⟩:=qx! h1;obtain⟨s',e3,e4⟩:=qx! h2;rw[e1]at e3;cases e3;obtain⟨e5,e6⟩:=Prod.mk.inj e2;rw[e1,_ag,e4,e5,e6]
theorem walkY{l:W.OpenLaw} (hn:l.most=b! n)(ff:n<=aW!)(hV:n<=63)(gP:d.params.defaults=[])(hr:hE! qo!) (F:∀(w:World)(mg:Str->Option Value)(fa:Addr)(h:Heap),YP w h->oA! mg->fn! d.name (w! fa)->XP mg h-> ∃K:W.Frag,hr!/\∃fd:FuncData,(∀(s:Shared)(u:Value),qh! s fd (dG! [u]) [(x,u)])/\ ∀base:Heap,K.In O!->sp! mg->z9e l.prog w K mg O! CX0 k fa fd [x] (znd K)): W.WalkO q n6! XP YP l.row.toRowW d [] (λf vs=>PySem.call f vs):=by
 refine Att.zcp hn gP λw s₀ s₁ mg mb fa o pm cd aE a vs ns G Yy ho hd bC cX dF cH ap hg=>?_;obtain⟨K,KX,fd,hb,hF⟩:=F w mg fa _ Yy G.T.g cX G.X;exact zjB KX G.T.g G.T.b G.T.builtins G.T.nolimit hg dF cH (_H ap ff) hr hF hb (λH hO hS=>⟨a,ns,rfl,hO,hS,_H ap hV,bf! rfl⟩) λH e s' z=>z
end Dd
namespace HT
section
variable {prog:Program}{w:World}{A:Around}{s:Shared}{E:bX!}
theorem zeQ(n:Nat):Builtin.Slice.sliceAdjust a! a! (-1) (h! n)=(h! n-1,-1):=by
 unfold Builtin.Slice.sliceAdjust;rfl
theorem zf3(n:Nat):qk! (h! n-1) (-1) (-1)=n:=by
 unfold Builtin.Slice.slicePlaces;rw[_q (by decide)];by_cases h:n=0;·subst h;rfl
 ·rw[_i (by omega)];simp
theorem z4Y{sl:Addr} {t:Tok} {n:Nat} {Q:Int×Int×Nat->ev!} (hs:rT! X! X! (b7! (-1))) (h:Q (h! n-1,-1,n) s):cB! w A (Builtin.Slice.sliceApplied (w! sl) (dS! (h! n))) Q E s:=by
 obtain⟨os,bZ,cV,cR⟩:=id hs;unfold Builtin.Slice.sliceApplied Builtin.Slice.sliceFields;refine _a (_a (_W bZ cR (x:=X!) rfl (_a (_W bZ cR (x:=X!) rfl (_a (_W bZ cR (x:=b7! (-1)) rfl (_m ?_)))))));refine _a (slicePart_int ?_);show fG! _ _ (aF! (h! (-1)==0) _ _) _ _;rw[_q (by decide)];refine _a (_cM (_a (_cM (_a (_m ?_)))));show fG! _ _ (match Builtin.Slice.sliceAdjust a! a! (-1) (h! n) with | (lo,hi)=>dS! (lo,h! (-1),qk! lo hi (-1))) _ _;rw[zeQ n];show fG! _ _ (dS! (h! n-1,h! (-1),qk! (h! n-1) (-1) (-1))) _ _;rw[zf3];exact _m h
theorem ziz(xs:cz!):nb! (rR! qD! (λ(m:Nat)=>xs[(h! qD!-1+h! m*(-1)).toNat]?))=xs.toList.reverse.toArray:=by
 congr 1;have key:∀(k:Nat),k<=qD!->rR! k (λ(m:Nat)=>xs[(h! qD!-1+h! m*(-1)).toNat]?)=xs.toList.reverse.take k:=by
  intro k;induction k with
  | zero=>simp | succ k ih=>
   intro hk;rw[List.range_succ,List.filterMap_append,ih (by omega)];have h1:fc! (h! qD!-1+h! k*(-1))=qD!-1-k:=by omega
   rw[_bL,h1,Array.getElem?_eq_getElem (by omega)];have hl:k<xs.toList.reverse.length:=by simp;omega
   rw[List.take_succ,_b hl];simp
 rw[key _ al!,List.take_of_length_le (by simp)]
theorem z34{t sl:Addr} {items:cz!} {tk:Tok} {Q:bX!} (ht:IsTup F! t g8!) (hs:rT! X! X! (bx! (-1) tk)) (h:Q fV! {s with heap:=id! ({cls:=dC!,data:=.seq items.toList.reverse.toArray})}) (bf:hK!<=aW!):cB! w A (getItem (w! t) (w! sl)) Q E s:=by
 have bW:sizeOk (.seq items.toList.reverse.toArray):=by
  show items.toList.reverse.toArray.size<=aW!;simpa using bf
 obtain⟨os,bZ,cV,cR⟩:=id hs;have m5:pa! (w! sl) "slice":=aV! os bZ cV;unfold getItem;try with_reducible refine _aT ?_
 first | refine _a (_m ?_) | skip
 refine _a (_c1 lu! (by decide) ?_);refine _a (_af (name:=Str.ofString "__getitem__") ht.typeIs _P (_aw _P lu! _cy ?_ (_cN _ _)));show fG! _ _ (Builtin.Tuple.tupleItemsOf (w! t) >>= _) _ _;refine _a (tupleItemsOf_ ht ?_);refine _a (_dG m5 ?_);rw[_i (by decide)];refine _a (z4Y (n:=items.size) hs ?_);have fB:¬ ((h! hK!-1==0&&h! (-1)==1&&hK!==hK!)=c!):=by simp
 show fG! _ _ (aF! (h! hK!-1==0&&h! (-1)==1&&hK!==hK!) _ _) _ _;rw[_q fB,ziz];first
  | exact _a (m:=sj!) (_aG (_m (aC! _ (_m h))) bW) | exact _a (m:=sj!) (_aG (_a (_m (_m (aC! _ (_m h))))) bW) | exact _a (_a (m:=sj!) (_aG (_m (_m (aC! _ (_m h)))) bW)) | exact _a (_a (m:=sj!) (_aG (_m (aC! _ (_m h))) bW))
end
end HT
namespace L2
section
variable {X:Cx}{e m:Expr}{te:TE}{pos p2:Pos}
def zrx(K:W.Frag)(te:TE):TE:=gI! (te O H (hG! (∃a xs,x=ac!/\SqT K H1 a xs/\∀p,H1 p=a!->Q b6! (upd H1 p (p! xs.reverse)))))
theorem znN(he:S! e te) (hm:∀(ae:List (Addr×Obj)) (s:Shared) (O:St) (H:Hp),K!->bO! (evalPart (b! m) aX!) (λu s'=>∃t,u=b7! (-1)/\lL! s') s): S! (mw! e (.Slice a! a! (b! m) p2)) (zrx X.K te):=by
 intro ae s O H Q I h;refine Subscript_ (thn (he ae s O H _ I h) λv s1 ⟨x,H1,I1,r1,q1⟩=>?_);refine wpAny_Slice ?_;rw[evalPart_none];refine _m (_m ?_);refine thn (hm ae s1 O H1 I1) λu s3 ⟨t,eu,I3⟩=>?_;subst eu;have I4:cI! H1 ({s3 with heap:=s3.heap.push {cls:=ar! "slice",data:=eJ! #[X!,X!,b7! (-1)]}}):=I3.kept (t':=s3.toks) λb ob q=>_g _ q;obtain⟨a,xs,rfl,hx,q⟩:=q1;cases r1;obtain⟨af,r,ht,hz⟩:=I4.tuple hx;show bO! (subscriptTail e (.Slice a! a! (b! m) p2) ac! (w! s3.heap.objs.size)) (EP X ae O Q) ({s3 with heap:=s3.heap.push {cls:=ar! "slice",data:=eJ! #[X!,X!,b7! (-1)]}});refine tail_any (ops:=[ac!,w! s3.heap.objs.size]) ht.typeIs _P.lookup ?_ (by with_unfolding_all rfl);have ap:iL!=x!:=by rw[_s];exact r.length.symm
 refine HT.z34 ht (Heap.IsSliceOf.new ..) ?_ (by rw[ap];exact hz);refine⟨w! _,_,I4.laid (t':=s3.toks) (o:=p! xs.reverse) (λb ob q=>_g _ q) al! ?_,rfl,q _ (I4.hok.fresh al!)⟩;have hr:xl xs.reverse af.reverse:=by
  clear hx hz ht q I4 ap;induction r with
  | nil=>exact cu! | cons p _ ih=>rw[_b6,_b6];exact ih.append (eI! p cu!)
 refine⟨by simpa using hz,af.reverse,hr,?_⟩;have e:af.toArray.toList.reverse.toArray=af.reverse.toArray:=by rfl
 rw[e];exact zfo.new _ _
end
end L2
namespace Dd
open L2
section
variable {X:Cx}{E:XK}{e:Expr}{pos p2 p3 p4:Pos}
theorem yj.rev{mg:Gm}{H:Hp}{Y:an!}:∀{xs:List D}{vs:List V},ht!->fZ! H Y xs.reverse vs.reverse
 | [],vs,h=>by obtain rfl:=h;exact yj.nil | d::ds,vs,h=>by
  obtain⟨v,r,rfl,h1,h2⟩:=h;rw[_b6,_b6];exact (yj.rev h2).append (.one h1)
noncomputable def zq9(f:FE):FE:=eO! (d5! (match d with
 | .tup xs=>M! (p! xs.reverse) | _=>.no))
theorem ztR{j:Nat} {f:FE} (he:fp! f):V! (mw! e (.Slice a! a! (b! (.UnaryOp .USub (lX! (d! 1) p3) p4)) p2)) (zq9 f):= yk (znN he λae s O H I=>by
  rw[evalPart_some];refine thn ((zqk (pos:=p4) zl1 (zlP (i:=1) (j:=j) (pos:=p3))) ae s O H (λv H1=>v=d! (-1)/\H1=H) I ?_) λu s1 ⟨x,H1,I1,r1,e1,e2⟩=>?_;·exact fg! 1 rfl rfl
  ·subst e1 e2;obtain⟨t,rfl⟩:=r1;exact aC! t I1) λO H Q ⟨Y,ρ,s,r,en,h⟩=>by
  unfold zq9 at h;refine⟨Y,ρ,s,r,en,(okR.bind (Dn:=k3!) h).imp λv H1 ⟨Y1,s1,d,stp,dn,h1⟩=>?_⟩;cases d with
  | tup xs=>
   obtain⟨a,vs,rfl,q1,q2⟩:=kZ (K:=X.K) dn;exact gR! a vs q1 (z45 dz! h1 q2.rev) | _=>exact h1.elim
end
section
variable {X:Cx}{E:XK}{e o a b c:Expr}{es:aE!}{pos:Pos}
def zet:D->D->bl!
 | x,.int k,s=>match l4! x with
  | some xs=>ab! (x!*dU!<=cap/\-(2 ^ 62)<=k/\k<2 ^ 62/\da! (hO! dU! xs)) (gs! (s++[hO! dU! xs])) | none=>.no
 | _,_,_=>.no
theorem zoT:∃r,ny! r/\cS! zet:=by
 refine bM! zkT ?_;intro H Y s d1 d2 v1 v2 Q r h1 h2 h;unfold zet at h;split at h
 ·rename_i k;cases yp h2;split at h
  ·rename_i xs hx;split at h
   ·rename_i hl;obtain⟨l,vs,e,q1,q2⟩:=yn r hx h1;exact⟨l,k,vs,e,rfl,q1,by omega,by omega,by rw[q2.length];exact kO hl.1,zfB r h hl.2.2.2 (q2.flat_rep _)⟩
   ·exact h.elim
  ·exact h.elim
 ·exact h.elim
end
structure Fly(P:Program)(w:World)(outer:mH!)(H:Hp)(s:Shared)(C ea:Addr)(H':Hp)(s':Shared):g! where
 os:p9!=s.os
 bare:rf!
 un:Un mD! [] H H' F! gH!
 hok:HOk P w H' gH!
 fly:∃B a0,rv! B au! ap! a0 gH!/\bG! (su!=b! o->(H' b≠a!\/((∃o',fU! b o')/\b∉mD!))->B.get? b=b! o)
def CX1(P:Program)(w:World):CXT:=λouter H s E e s'=>∃C ea H',e=w! ea/\Fly P w au! H s C ea H' s'/\E ap! a! H'
theorem HOk.cov{h h' B:Heap}(x:HOk P w H h)(c:bG! (cG! b->H b≠a!->B.get? b=b! o))(k:B.StaysIn h'):HOk P w H h':=λa o e=> (x a o e).stay (λb u hb q=>by
  refine k b u (c b u q ?_);rcases hb with rfl | hb;·rw[e];simp
  ·rw[hb];simp) (λ_ q=>q) λ_ _ q=>q
theorem zjn(x:jA P w H h a o):∃ob,eu! a ob:=by cases o with
 | lst xs=>obtain⟨_,_,_,_,e⟩:=x;exact c0! e | tup xs=>obtain⟨_,_,_,ob,e,_⟩:=x;exact c0! e | dK ah=>obtain⟨_,_,_,_,o,_,_,e,_⟩:=x;exact c0! e | dT ah=>obtain⟨_,_,_,_,o,_,_,e,_⟩:=x;exact c0! e | set S n=>obtain⟨o,_,_,_,e,_⟩:=x;exact c0! e | ins C dx fs=>obtain⟨_,_,_,e,_⟩:=x;exact c0! e | own y=>exact x | xd fs=>obtain⟨_,⟨_,_,_,e,_⟩,_⟩:=x;exact c0! e | rng lo hi=>obtain⟨_,_,_,e⟩:=x;exact c0! e | frz ob u=>obtain⟨e,_⟩:=x;exact c0! e | tbl ps=>exact c0! x | met f y=>exact c0! x | ext φ=>obtain⟨_,e,_⟩:=x;exact e
section
variable {X:Cx}{E:XK}{ae:de!}{O:L2.St}{H:Hp}{s:Shared}
theorem Inv.left(I:K!)(cf:lm!=[])(ho:kz!=au!)(fl:rv! B au! ap! a0 h')(sm:s.heap.UpToSlots h') (c:bG! (dm! b->(H b≠a!\/((∃o',rK!=b! o')/\b∉mD!))->B.get? b=b! o)) (hg:rB! g): Fly aT! X.w au! X.H₀ X.s₀ C ea H ⟨h',g,d,t,s.os⟩:=by
 subst ho;have k:=fl.1;refine⟨jT!,hg,⟨λb o e n nf ne=>(k b o (c b o (p5! b o e n nf (by rw[cf];exact ne)) (ef! (gT! o) nf))),λb o e n hf ne=>?_,λb o e n ne=>(rA! o e n (by rw[cf];exact ne)),λb o e ne=>?_,I.base.tups,I.base.frzs,I.base.tbls⟩,HOk.cov eL! (λb o e n=>c b o e (y! n)) k,B,a0,fl,λb o e q=>?_⟩
 ·obtain⟨sl,e1⟩:=p6! b o e n hf (by rw[cf];exact ne);obtain⟨_,o2,e2,cZ⟩:=I.funs.mem hf;rw[e1]at e2;cases e2;obtain⟨cG,e3⟩:=sm b _ e1 cZ;exact as! cG e3
 ·by_cases hf:b∈frs kz!
  ·obtain⟨_,o2,e2,cZ⟩:=I.funs.mem hf;obtain⟨cG,e3⟩:=sm b _ e2 cZ;exact c0! e3
  ·obtain⟨o1,e1⟩:=oG! o e (by rw[cf];exact ne);exact⟨o1,k b o1 (c b o1 e1 (ef! (gT! o) hf))⟩
 ·have back:∀o1,fU! b o1->B.get? b=b! o:=λo1 e1=>by
   have e2:=c b o1 e1 (q.imp id λz=>z);have:dw! b:=e;rw[(k b o1 e2)]at this;cases this;exact e2
  rcases q with q | ⟨⟨o',e'⟩,nf⟩;·cases z:H b with
   | none=>exact oX! q | some u=>
    obtain⟨o1,e1⟩:∃o1,fU! b o1:=zjn (nU! b u z);exact back o1 e1
  ·obtain⟨o1,e1⟩:=oG! o' e' (by rw[cf];simp);exact back o1 e1
end
section
variable {P:Program}{w:World}{K:W.Frag}{mg:Str->aS!}{base:Heap}{N:aq!}{qual:Str}{scope:Scope}{f:Addr}{cd:Value}{A:Around}{outer:mH!}{s:Shared}{H:Hp}{E:XK}
theorem z3H:(pG! av! by! f cd).frame=b! at!:=rfl
theorem z1M:Passes dM! (z4M dM! P w K mg O! N av! by! f cd A au! s H E) E:=by
 intro ae O H1 s1 e s' I h;obtain⟨C,ea,H',he,fl,hE⟩:=h;subst he;obtain⟨h2,g2,d2,t2,m6⟩:=s';have m7:m6=s1.os:=fl.os;subst m7;have I':=I.call (h':=h2) (g':=g2) (d':=d2) (t':=t2) (ch:=[]) fl.un fl.hok fl.bare (λb z=>oX! (by simp));obtain⟨B,a0,fw,cov⟩:=fl.fly;refine wpAny_leaves_onW (base:=B) (outer:=outer) I.ok.frames z3H fw λh' m8 sm=>⟨C,ea,H',rfl,Inv.left I' rfl rfl m8 sm (λb o e q=>cov b o e (q.imp id λz=>?_)) I'.bare,hE⟩;obtain⟨⟨o',e'⟩,nf⟩:=z;obtain⟨o1,e1⟩:=oG! o' e' (by show b∉([]);simp);refine⟨as! o1 e1,λz=>?_⟩;rcases eK! z with z | z
 ·have:=_r e';rw[z]at this;exact kT! iP! _
 ·exact nf z
theorem zpM{O:L2.St} (I:Inv (z4M dM! P w K mg O! N av! by! f cd A au! s H E) ae O H1 s1) (hx:Heap.MadeExcOf qd! h' e ap! jU!) (hE:E ap! a! H1): (z4M dM! P w K mg O! N av! by! f cd A au! s H E).xe ei! {s1 with heap:=h'}:=by
 refine wpAny_leaves_madeW (base:=W.hideAll qd! (frs (pG! av! by! f cd::au!))) (h:=s1.heap) (outer:=outer) I.ok.frames z3H (λb o q=>W.of_hideAll _ q) (W.funFrames_hide I.stack (λenv he b hb=>_cJ.mpr ⟨env,he,hb⟩)) hx λpQ t fw tup bt sm=>⟨C,e,H1,rfl,Inv.left I rfl rfl fw (a4! (Heap.UpToSlots.of_keeps hx.keeps) sm) (λb o eb q=>W.hideAll_get _ eb λz=>?_) jn!,hE⟩;rcases q with q | ⟨⟨o',e'⟩,nf⟩;·exact q (I.stkFree b z)
 ·rcases eK! z with z | z
  ·have:=_r e';rw[z]at this;exact kT! iP! _
  ·exact nf z
end
def zg8(X:Cx) (E:XK):g!:=∀(ae:List (Addr×Obj)) (O:L2.St) (H1:Hp) (s1:Shared) (h':Heap) (e C:Addr) (args:List Value),cI! H1 s1->Heap.MadeExcOf qd! h' e ap! jU!->E ap! a! H1->X.xe ei! {s1 with heap:=h'}
def zo9(K:W.Frag)(mg:Str->aS!)(x:Str):g!:=∃C,fn! x ap!/\rb! K C bmV=c!
inductive ExO(h:Heap)(C:Addr)(P:bU!->lg!->String->g!):g! | mk {bm N nm q bs hdct sn sub ab col dd k0 k1 k2 k3 k5 i}(hC:eu! C (excClassObj nm q C N bs bm hdct sn sub ab col dd k0 k1 k2 k3 k5 i))(hp:P bm N i):ExO h C P
theorem zhP{K:W.Frag} (X:K.In h₀)(q:W.excIn K C bmB cO=c!):ExO h₀ C λbm N i=>i=cO/\∃mN,h₀.Ns N mN/\mN "__init__"=a!/\OwnTail h₀ bmB bm:=by
 unfold W.excIn at q;split at q
 ·rename_i dd cd sl ho;split at q
  ·rename_i C' bm k0 k1 k2 k3 n k5 hm hs;simp only[_R,_aA,Bool.not_eq_true']at q;obtain⟨⟨⟨⟨⟨rfl,rfl⟩,ik⟩,ht⟩,hok⟩,il⟩:=q;obtain⟨nm,bs,mro,ns,qn,hd,sn,sub,ab,col,pR⟩:=cd;subst hm ik;have na:sl=#[k0,k1,k2,k3,hV! n,k5]:=by
    obtain⟨l⟩:=sl;simp only at hs;rw[hs]
   subst na;exact⟨X _ _ ho,rfl,_,.of_isNs (W.isNs_of_in X hok),W.nsMap_none_of_in X hok il,W.tail_of_in X ht⟩
  ·cases q
 ·cases q
section
variable {X:Cx}{E:XK}{pos:Pos}
noncomputable def z8n(c:Str):FS:=λ_ s=>em!
theorem z8L(hk:zo9 X.K fu! x) (nc:zg8 X E) (hc:b2!) (hg:e7!) (hd:ce! (x==cH!)): RS X E (.Raise (b! (fw! (fC! np) [gN! m j p] [] ak)) a! pos) (z8n x):=by
 intro ae s O H D I h;obtain⟨Y,ρ,st,r,en,h⟩:=h;obtain⟨C,hm,hq⟩:=hk;have hE:E ap! a! H:=h H Y C (vD.refl r) hm;obtain @⟨tl,Nn,nm,q,bs,hdct,sn,sub,ab,col,dd,k0,k1,k2,k3,k5,_,hC,rfl,mN,hN,il,T⟩:=zhP I.mod.kin hq;refine wpAny_Raise_call_subT (C:=C) (nm:=nm) (q:=q) (N:=Nn) (bs:=bs) (bm:=tl) (hdct:=hdct) (sn:=sn) (sub:=sub) (ab:=ab) (col:=col) (dd:=dd) (k0:=k0) (k1:=k1) (k2:=k2) (k3:=k3) (k5:=k5) _bA (mN:=mN) (T.hasType _bA.hasBase) hg! rfl il (z3F I hg hm (iq! (_by (thn (wz (X:=X) (zld (X:=X)) (z0y (X:=X)) rfl ak ae s O H (λvs H1=>vs=[aI! m]/\H1=H) I (co! rfl)) λus s2 h2=>?_))) hd);obtain⟨vs,H1,I1,r1,e1,e2⟩:=h2;subst e1 e2;obtain⟨u,rfl,ru⟩:=r1.one;exact⟨rfl,by show 1<=aW!;decide,I1.bk _ _ hC,hN.keeps I1.bk,T.keeps I1.bk,λh' e mk=>nc ae O _ s2 h' e C [u] I1 mk hE⟩
end
noncomputable def kX(N:aq!)(n:Nat)(fs:FS):Mir:=λds s=>ab! (qs!=n) (match fs (zv N ds) s with
 | .ok (.rt d) s'=>cg! d | .ok (.nx _) s'=>cg! aJ! | .ex c s'=>.ex c s' | _=>.no)
section
variable {P:Program}{w:World}{K:W.Frag}{mg:Str->aS!}{base:Heap}
theorem zeK: Passes CX0 X E:=λ_ _ _ _ _ _ _ h=>h.elim
theorem zmo{st:Stmt} (F:Fun K x av! st f fd)(hm:fn! x fj!)(hb:kp! K ps [])(S:R! N ps st)(hn:a5!=n) (body:sf! (hE! (kf! av! c2! f aj)) ((z4M dM! P w K mg O! N av! c2! f aj A au! s H E).calm=c!-> RSs (z4M dM! P w K mg O! N av! c2! f aj A au! s H E) E h6! fs)):Has P w K mg O! dM! x (k+1) (kX N n fs):=by
 subst hn;obtain⟨oc,od,kV,aE,pm,an,aj,ct,cE,rfl,lk,bC⟩:=F.ex;refine⟨f,_,ps,zot lk bC S (qz! ?_) (λA outer s H vs Q E hr h=>?_),hb,F.kp,hm⟩
 ·obtain⟨Y,s,ds,_,dn,h⟩:=h;unfold kX at h;split at h;·rename_i e;rw[dn.length];exact e
  ·exact h.elim
 ·obtain⟨Y,cr,ds,r,dn,h⟩:=h;refine⟨_,body aj A au! s H E hr (by show A.handled.isNone=c!;rw[show nq! from hr.hd];rfl),Y,zv N ds,cr,r,z15 dn,?_⟩;unfold kX at h;split at h
  ·split at h
   ·rename_i d s' e;rw[e];intro fv H' Y' stp fd;cases fv with
    | rt v=>exact h v H' Y' stp fd | _=>exact bZ! fd
   ·rename_i ρ s' e;rw[e];intro fv H' Y' stp fd;cases fv with
    | nx v=>exact h aJ! H' Y' stp (by rfl) | _=>exact bZ! fd
   ·rename_i c s' e;rw[e];exact h
   ·exact h.elim
  ·exact h.elim
noncomputable def zvG(M:Mir):Mir:=λds s=>match M ds s with | .ex _ _=>.no | r=>r
end
noncomputable def z0v(f:FS):FS:=eO! (match aM! with | .ex _ _=>.no | r=>r)
theorem kP{st:Stmt} (h:RS X.nox E0 st f):RS X E st (z0v f):=λae s O H D I hw=>by
 obtain⟨Y,ρ,cr,r,en,q⟩:=hw;exact _Z (h ae s O H D (I.wish _) ⟨Y,ρ,cr,r,en,(by
  unfold z0v at q;cases e:f ρ cr with
  | ok d s'=>rw[e]at q;exact q | ex c s'=>rw[e]at q;exact q.elim | no=>rw[e]at q;exact q.elim)⟩) (λ_ _ q=>q.unwish) λ_ _ z=>me! z
@[simp] theorem zn3(f:FS)(ρ:Ev)(s:Sto):z0v f ρ s=(match aM! with | .ex _ _=>.no | r=>r):=U!
@[simp] theorem zr7(c:Str)(ρ:Ev)(s:Sto):z8n c ρ s=em!:=U!
theorem z5c{K:W.Frag} : zg8 (z4M dM! P w K mg O! N av! by! f cd A au! s H E) E:=λ_ _ _ _ _ _ _ _ I hx hE=>zpM I hx hE
end Dd
namespace PySem
open PySem.Sem (wp)
section
variable {M:Model}{A:Around}{E:bX!}
theorem ki{h:Heap}{g:rU!}{d:Drawn}{t:Nat}{os:OsState}{e C D:Addr}{oe:Obj}{Q:cb!->ev!} {nm q:Str}{N:Addr}{bs bm:bU!}{hdct:Bool}{sn:aq!}{sub:bU!}{ab:Bool}{col:rl!}{dd:oI!}{k0 k1 k2 k3 k5:aS!}{cO:String} {ng q':Str}{N':Addr}{nh im:bU!}{fC:Bool}{ni:aq!}{io:bU!}{nj:Bool}{ip:rl!}{nq:oI!}{nr nt nu nv nw:aS!}{dI:String} (hC:eu! C (excClassObj nm q C N bs bm hdct sn sub ab col dd k0 k1 k2 k3 k5 cO))(hD:eu! D (excClassObj ng q' D N' nh im fC ni io nj ip nq nr nt nu nv nw dI)) (he:eu! e oe)(cu:oe.cls=ap!)(am:im.contains (ar! "BaseException")=c!)(bP:qe! (lj! C::bm) (w! D)=c!) (hq:Q c! (eZ! h g d t)):wpAny M A (excMatches ei! (w! D)) Q E (eZ! h g d t):=by
 have f:=tc_notTuple;repeat (first | (with_reducible rw[cu]) | with_reducible refine _aP hD ?_ | with_reducible refine _aP hC ?_ | (with_reducible refine wpAny_isSubtype_exc hD ?_;rw[(show qe! (lj! D::im) (ar! "BaseException")=c! from by rw[List.contains_cons,am,Bool.or_true])]) | (with_reducible refine wpAny_isSubtype_exc hC ?_;rw[bP]) | wp_step)
 exact hq
end
end PySem
namespace Dd
open L2
theorem _root_.L2.Inv.locals{O:L2.St} (I:lz! X ae O H s)(hn:h'.Ns jS! m')(sb:Heap.SameBut jS! F! h'): lz! X ae (ox! X.N.length) H ({s with heap:=h',toks:=t}):=by
 have k:bG! (iU! b->dm! b->dw! b):=λb o n e=>sb.extBut _ _ n e;have dX:bG! (rK!=b! o->iU! b):=gG! (_D (_j c5! nT!));refine⟨m8!,jT!,jn!,⟨λb o e n nf ne=>k b o (dX b o e) (p5! b o e n nf ne),λb o e n hf ne=>?_,I.base.free,λb o e ne=>?_,I.base.tups,I.base.frzs,I.base.tbls⟩,⟨m',hn,λi x v h1 h2=>?_⟩,λx c e=>?_,iH!,lo!,bq! ?_,λa o e=>?_,by simp⟩
 ·obtain⟨sl,e1⟩:=p6! b o e n hf ne;exact⟨sl,k b _ (dX b o e) e1⟩
 ·obtain⟨o1,e1⟩:=oG! o e ne;exact⟨o1,k b _ (dX b o e) e1⟩
 ·rw[_bd]at h2;split at h2<;>cases h2
 ·obtain⟨v,o,ho,hd⟩:=nz! x e;exact⟨v,o,k c o (I.cne x c e) ho,hd⟩
 ·obtain⟨q1,q2,q3,q4⟩:=k8! hp;exact⟨k p.1 p.2 q3 q1,q2,q3,q4⟩
 ·refine (nU! a o e).stay (λb u hb q=>k b u (λz=>?_) q) (λ_ q=>q) λ_ _ q=>q;have:=I.free;rw[<- z]at this;rcases hb with rfl | hb;·rw[e]at this;cases this
  ·rw[hb]at this;cases this
noncomputable abbrev Cx.at_(X:Cx)(pn:de!)(xe:bX!):Cx:={X with pn:=pn,xe:=xe}
noncomputable abbrev Cx.mk_(X:Cx)(e:Addr)(pn:de!):Cx:={X with A:=X.A.mark (b! ei!),calm:=false,pn:=pn,xe:=iW!}
theorem Cx.ok_at(ok:X.Ok) : (pg! X pn xe).Ok:= ⟨ok.mod,ok.kind,ok.glob,ok.blt,ok.above,ok.inj,ok.has,ok.cab,ok.hd,ok.frames,ok.stk,ok.exf,ok.bs,ok.bsz,ok.noex,ok.exfs,ok.funs,ok.frf⟩
theorem Cx.ok_of(ok:(pg! X pn xe).Ok):X.Ok:= ⟨ok.mod,ok.kind,ok.glob,ok.blt,ok.above,ok.inj,ok.has,ok.cab,ok.hd,ok.frames,ok.stk,ok.exf,ok.bs,ok.bsz,ok.noex,ok.exfs,ok.funs,ok.frf⟩
theorem Cx.ok_mk(ok:X.Ok) : (qE! X e pn).Ok:= ⟨ok.mod,ok.kind,ok.glob,ok.blt,ok.above,ok.inj,ok.has,ok.cab,(λh=>by cases h),ok.frames,ok.stk,ok.exf,ok.bs,ok.bsz,ok.noex,ok.exfs,ok.funs,ok.frf⟩
section
variable {X:Cx}{ae:de!}{O:L2.St}{H:Hp}{s:Shared}
theorem _root_.L2.Inv.at_(I:lz! X ae O H s) : lz! (pg! X (iG!++ae) xe) [] O H s:= ⟨Cx.ok_at m8!,jT!,jn!,nV!,mc!,nW!,iH!,lo!,bq! (k8! (by simpa using hp)),eL!,ln!⟩
theorem _root_.L2.Inv.of_at(I:lz! (pg! X (iG!++ae) xe) pins' O H s):lz! X ae O H s:= ⟨Cx.ok_of m8!,jT!,jn!,nV!,mc!,nW!,iH!,lo!,bq! (k8! (_ba _ hp)),eL!,ln!⟩
theorem _root_.L2.Inv.mk_(I:lz! X ae O H s) : lz! (qE! X e (iG!++ae)) [] O H s:= ⟨Cx.ok_mk m8!,jT!,jn!,nV!,mc!,nW!,iH!,lo!,bq! (k8! (by simpa using hp)),eL!,ln!⟩
theorem _root_.L2.Inv.of_mk(ok:X.Ok)(I:lz! (qE! X e (iG!++ae)) pins' O H s):lz! X ae O H s:= ⟨ok,jT!,jn!,nV!,mc!,nW!,iH!,lo!,bq! (k8! (_ba _ hp)),eL!,ln!⟩
theorem Fly.land{s s':Shared} (un:Un mD! [] H H' F! gH!)(hok:HOk P w H' gH!)(fw:rv! B au! ap! a0 gH!) (cov:bG! (su!=b! o->(H' b≠a!\/((∃o',fU! b o')/\b∉mD!))->B.get? b=b! o))(dJ:rv! B au! ap! a0 h5)(sm:s'.heap.UpToSlots h5): sI! ea=a!/\f3! ea/\Un mD! [] H (upd H' ea (zl6 C ea)) F! h5/\HOk P w (upd H' ea (zl6 C ea)) h5/\∃oe,h5.get? ea=b! oe/\oe.cls=ap!:=by
 have k:=dJ.1;obtain⟨oe,vs,T,oT,ts,he,⟨cu,_⟩,hd,_⟩:=dJ.2.2.2;obtain⟨pS,fj,_,_,_,d9,_,gC,_⟩:=fw.2.2.2;have new:sI! ea=a!:=by cases z:sI! ea with
  | none=>rfl | some o=>
   exfalso;obtain⟨o1,e1⟩:=un.there ea o z (by simp);by_cases hf:ea∈mD!
   ·obtain⟨_,o2,e2,cZ⟩:=fw.2.2.1.mem hf;rw[d9]at e2;cases e2;exact cZ _ gC
   ·have:=cov ea o1 e1 (ef! (as! o z) hf);rw[fw.2.1]at this;cases this
 have hn:f3! ea:=by cases z:H' ea with
  | none=>rfl | some u=>
   have:=cov ea _ d9 (y! (by rw[z];simp));rw[fw.2.1]at this;cases this
 have fD:∀b u,H' b=b! u->b≠ea:=λb u e z=>by rw[z,hn]at e;cases e
 refine⟨new,hn,⟨λb o e n nf _=>(k b o (cov b o (un.keep b o e n nf (by simp)) (ef! (gT! o) nf))),λb o e n hf _=>?_,λb o e n _=>?_,λb o e _=>?_,λb xs e=>?_,λb o u e=>?_,λb ps e=>?_⟩,λa o e=>?_,oe,he,cu⟩
 ·obtain⟨sl,e1⟩:=un.slot b o e n hf (by simp);obtain⟨_,o2,e2,cZ⟩:=fw.2.2.1.mem hf;rw[e1]at e2;cases e2;obtain⟨cG,e3⟩:=sm b _ e1 cZ;exact as! cG e3
 ·rw[zJ ((λb o e z=>by rw[z,new]at e;cases e) b o e)];exact un.free b o e n (by simp)
 ·by_cases hf:b∈mD!
  ·obtain⟨_,o2,e2,cZ⟩:=fw.2.2.1.mem hf;obtain⟨cG,e3⟩:=sm b _ e2 cZ;exact c0! e3
  ·obtain⟨o1,e1⟩:=un.there b o e (by simp);exact⟨o1,k b o1 (cov b o1 e1 (ef! (gT! o) hf))⟩
 ·have q:=un.tups b xs e;rw[zJ (fD b _ q)];exact q
 ·have q:=un.frzs b o u e;rw[zJ (fD b _ q)];exact q
 ·obtain⟨more,q⟩:=un.tbls b ps e;exact⟨more,by rw[zJ (fD b _ q)];exact q⟩
 ·by_cases z:a=ea
  ·subst z;rw[yu]at e;cases e;exact⟨⟨oe,vs,he,cu,hd⟩,as! oe he,λh1 h2 ⟨o,ws,q1,q2,q3⟩ st=>⟨o,ws,st o q1,q2,q3⟩⟩
  ·rw[zJ z]at e;refine (HOk.cov hok (λb o e n=>cov b o e (y! n)) k a o e).stay (λb u _ q=>q) (λb q=>?_) λb xs q=>?_;·rw[zJ (fD b _ q)];exact q
   ·rw[zJ (fD b _ q)];exact q
end
def zrY(K:W.Frag)(mg:Str->aS!)(x y:Str):g!:=∃C D,fn! x ap!/\fn! y (w! D)/\rb! K C bmV=c!/\rb! K D bmV=c!/\ ∀h₀:Heap,K.In h₀->ExO h₀ C λbm _ _=>qe! (lj! C::bm) (w! D)=c!
theorem zjT{K:W.Frag}{h:Heap}{D:Addr}(X:hr!)(q:rb! K D bmV=c!):ExO h D λbm _ _=>bm.contains (ar! "BaseException")=c!:= let ⟨hC,_,_,_,_,T⟩:=zhP X q;⟨hC,T.hasType _bA.hasBase⟩
section
variable {prog:Program}{w:World}{A:Around}{E:bX!}{s:Shared}{env:Env}
theorem z5V{e C D:Addr} {jC:d9! ExceptHandler} (h:cB! w (ns! ei!) (kh! t) (λc s₁=>c=w! D/\ (ExO lv! C λbm _ _=>qe! (lj! C::bm) (w! D)=c!)/\ (ExO lv! D λbm _ _=>bm.contains (ar! "BaseException")=c!)/\(∃oe,qn! e=b! oe/\oe.cls=ap!)/\ cB! w (ns! ei!) (setFlight ei! a!) (λ_ s₂=> cB! w (ns! ei!) (storeName env n ei!) (λ_ s₃=> cB! w (ns! ei!) (execs (b₀::suite) env) (λf s₄=>cB! w A (do bindName env n X!;unbindBehindTheSuite env n pos) (λ_ s₅=>Q f s₅) E s₄) (AsSuiteRaised h9! (ns! ei!) env n pos (notedBy h9! (ns! ei!) env (cameBackBy h9! A env E))) s₃) (notedBy h9! (ns! ei!) env (cameBackBy h9! A env E)) md!) (notedBy h9! (ns! ei!) env (cameBackBy h9! A env E)) jo!) (notedBy h9! (ns! ei!) env (cameBackBy h9! A env E)) s): cB! w A (handleBy ei! env (.ExceptHandler (b! t) (b! n) (b₀::suite) pos::jC)) Q E s:=by
 refine wpAny_handleBy_cons (codeAny_handlers_test (_Z h (λc s₁ h₁=>?_) λ_ _ y=>y)) (by intro q;cases q);obtain⟨rfl,⟨hC,bP⟩,⟨hD,am⟩,⟨oe,he,cu⟩,hk⟩:=h₁;exact ki hC hD he cu am bP (codeAny_handlers_suite_as hk)
end
noncomputable def zpL(cs:aq!)(fb:FS)(j:Nat)(fh:FS):FS:=eO! (match fb ρ s with
 | .ex c s1=>ab! (c∈cs) (match fh (i8! (ox! qt!) j (.exc c)) s1 with
  | .ok (.rt d) s2=>bD! (.rt d) | _=>.no) | .ok (.rt d) s1=>M! (.rt d) | _=>.no)
theorem zjM{mg:Gm}{H:Hp}{Y:an!}{O:L2.St}{n j:Nat}{d:D}{v:V}(hl:n=p4!)(dn:fI!):z1S mg H Y (i8! (ox! n) j d) (kV! j):= ⟨by rw[_cu,_bt,_cu,hl],λi d' hi=>by
  by_cases z:j=i
  ·subst z;have hj:j<n:=by have:=cM! hi;rwa [_cu,_bt]at this
   rw[_ah (by rw[_bt];exact hj)]at hi;cases hi;exact⟨v,_ah (hl ▸ hj),dn⟩
  ·rw[_ab z,_bd]at hi;split at hi<;>cases hi⟩
section
variable {X:Cx}{E:XK}{pos fE np:Pos}
theorem zsG(dD:jl!=aX!::kz!) (aI:X.env.frame=b! jS!) (cf:lm!=[]) (cV:∀c∈cs,zrY X.K fu! c y) (hg:ix! y) (hN:X.N.Nodup) (hj:E! X.N j n) (dL:fY! n) (hb:∀(pn:List (Addr×Obj)) (xe:Value->Shared->Prop) (E1:XK),Passes (CX1 aT! X.w) (pg! X pn xe) E1->RSs (pg! X pn xe) E1 dT! fb) (hh:∀(e:Addr) (pn:List (Addr×Obj)),RSs (qE! X e pn) E0 (b₀::suite) fh) (aG:ce! (y==cH!)): RS X E (.Try dT! [.ExceptHandler (b! (.Name y np)) (b! n) (b₀::suite) fE] [] [] pos) (zpL cs fb j fh):=by
 intro ae s O H D I hw;obtain⟨Y,ρ,cr,r,en,h⟩:=hw;have ap:qt!=X.N.length:=by rw[en.len,I.len]
 refine wpAny_Try_except ?_;generalize hEb:(λ(e:Value) (s₁:Shared)=>bO! (noteFrame e aX!) (λ_ s₂=>bO! (setFlight e a!) (λ_ s₃=>bO! (handleBy e aX! [.ExceptHandler (b! (.Name y np)) (b! n) (b₀::suite) fE]) (SP X ae D) s₃) md!) jo!)=Eb;let E1:XK:=λv _ H'=>∃c Y' ay C d s2,v=ap!/\c∈cs/\X.mg c=b! ap!/\vD J! H Y H' Y' ay/\fh (i8! (ox! qt!) j (.exc c)) ay=bD! (.rt d)/\okR J! E H Y (FlD J!) (bD! (.rt d)) (zik D);have iq:Passes (CX1 aT! X.w) (pg! X (iG!++ae) Eb) E1:=by
  intro pins' O' H1 s1 e s' I1 ny;obtain⟨C,ea,H',he,fl,hE⟩:=ny;subst he;obtain⟨c,Y',ay,C',d,s2,eC,cT,gq,stp,nA,ok⟩:=hE;cases eC;have J1:=I1.of_at;obtain⟨B,a0,fw,cov⟩:=fl.fly;have fw:rv! B (aX!::kz!) ap! a0 gH!:=by rw[<- dD];exact fw
  have un:Un (frs (aX!::kz!)) [] H1 H' qd! gH!:=by rw[<- dD];exact fl.un
  have land:∀h5,rv! B (aX!::kz!) ap! a0 h5->s'.heap.UpToSlots h5->lz! X ae O' (upd H' ea (zl6 C ea)) ({s' with heap:=h5})/\f3! ea/\∃oe,h5.get? ea=b! oe/\oe.cls=ap!:=λh5 dJ sm=>by
   obtain⟨_,hn,nB,iu,oe⟩:=Fly.land un fl.hok fw (by rw[<- dD];exact cov) dJ sm;exact⟨J1.call' (s':={s' with heap:=h5}) (ch:=[]) fl.os (by rw[dD];exact nB) iu fl.bare (λb z=>oX! (by simp)),hn,oe⟩
  rw[<- hEb];refine wpAny_looks_onW (base:=B) (by rw[<- dD];exact J1.ok.frames) aI fw λh4 iw k9=>?_;refine wpAny_landsW iw λh5 dJ lg=>?_;obtain⟨I5,pT,nC⟩:=land h5 dJ (k9.trans lg);obtain⟨C2,D2,cn,nD,q1,q2,bP⟩:=cV c cT;rw[gq]at cn;cases cn;refine z5V (C:=C) (D:=D2) (z3F (X:=qE! X ea (iG!++ae)) I5.mk_ hg nD ⟨rfl,bP _ I5.kIn,zjT I5.kIn q2,nC,?_⟩ aG)
  ·refine lands_againW dJ λh6 nE nF=>?_;obtain⟨I6,nG,pU⟩:=land h6 nE (a4! (k9.trans lg) nF);refine z2z (X:=qE! X ea (iG!++ae)) I6.mk_ hN hj (y! dL) (show ww (w! ea) (w! ea) from rfl) (λs7 I7=>?_) (Q! dL);have nH:vD J! H' Y' (upd H' ea (zl6 C ea)) Y' ay:=vD.lay dz! nG (by intro vs z;cases z);have fF:=stp.trans nH;have nI:=zjM (d:=.exc c) (v:=w! ea) (j:=j) (n:=ρ.length) (Y:=Y') (mg:=J!) (H:=upd H' ea (zl6 C ea)) (O:=O') (ap.trans J1.len.symm) (gR! ea C gq yu);have run:=hh ea (iG!++ae) [] s7 (O'.set j (b! (w! ea))) (upd H' ea (zl6 C ea)) {nx:=iW!,rt:=D.rt} I7 ⟨Y',_,ay,fF.rep,nI,by
    rw[nA];intro fv H2 Y2 ag fd;cases fv with
    | rt v=>exact ok (.rt v) H2 Y2 (fF.trans ag) fd | _=>exact bZ! (show False from fd)⟩;refine _Z run (λfl s8 q8=>?_) λ_ _ z=>z.elim;cases fl with
   | ret u=>
    obtain⟨v,O8,H8,I8,rv,q8⟩:=q8;have J8:=I8.of_mk J1.ok;obtain⟨m,hn,_⟩:=J8.loc;refine wpAny_nameGoes (env:=X.env) dL hn (by rw[J1.ok.kind];rfl) λh9 m9 nJ nK=>?_;exact⟨v,_,H8,J8.locals nJ nK,rv,q8⟩ | next=>obtain⟨_,_,_,z⟩:=q8;exact z.elim | brk=>obtain⟨_,_,_,z⟩:=q8;exact z.elim | cont=>obtain⟨_,_,_,z⟩:=q8;exact z.elim
 have run:=hb (iG!++ae) Eb E1 iq [] s O H {nx:=iW!,rt:=D.rt} I.at_ ⟨Y,ρ,cr,r,en,?_⟩
 ·refine _Z run (λfl s1 q1=>?_) λ_ _ z=>z;cases fl with
  | ret u=>
   obtain⟨v,O8,H8,I8,rv,q8⟩:=q1;exact⟨v,O8,H8,I8.of_at,rv,q8⟩ | next=>obtain⟨_,_,_,z⟩:=q1;exact z.elim | brk=>obtain⟨_,_,_,z⟩:=q1;exact z.elim | cont=>obtain⟨_,_,_,z⟩:=q1;exact z.elim
 ·unfold zpL at h;cases e:fb ρ cr with
  | no=>rw[e]at h;exact h.elim | ok fl s1=>
   rw[e]at h;cases fl with
   | rt d=>
    intro fv H2 Y2 ag fd;cases fv with
    | rt v=>exact h (.rt v) H2 Y2 ag fd | _=>exact bZ! (show False from fd)
   | _=>exact h.elim
  | ex c s1=>
   rw[e]at h;intro H' Y' C stp gq;simp only at h;split at h
   ·rename_i cT;cases e2:fh (i8! (ox! qt!) j (.exc c)) s1 with
    | no=>rw[e2]at h;exact h.elim | ex _ _=>rw[e2]at h;exact h.elim | ok fl s2=>
     rw[e2]at h;cases fl with
     | rt d=>exact⟨c,Y',s1,C,d,s2,rfl,cT,gq,stp,e2,h⟩ | _=>exact h.elim
   ·exact h.elim
end
end Dd
namespace PySem
open PySem.Sem (wp)
open PySem.W
structure ExcCls(K:Frag)(C:Addr):g! where
 ga:findIn K ap! "__getattribute__"=b! (hV! mX!)
 gh:findIn K ap! "__getattr__"=b! a!
 cl:findIn K ap! o2!=b! (b! ou!)
 ob:mroIn K C (ar! "object")=b! c!
 be:mroIn K C (ar! "BaseException")=b! c!
 ty:∃d cd sl,mW! C=b! ⟨ar! "type",d,.cls cd,sl⟩
section
variable {prog:Program}{w:World}{A:Around}{E:bX!}{K:Frag}{h:Heap}{g:rU!}{d:Drawn}{t:Nat}{os:OsState}{a C:Addr}{o:Obj}
theorem zqy{M:Model}(hx:cG! a)(hc:gd!=ap!):Looks M h (typeOf ac!) ap!:=by
 intro A' Q' E' s' k q;unfold typeOf;refine _a (wpAny_loadPart (k _ _ hx) ?_);rw[hc];exact _m q
theorem z9A{R:Result->ev!}(X:hr!)(Fx:ph! K C)(hx:cG! a)(hc:gd!=ap!)(hq:R (l7! ap!) (eZ! h g d t)): kC! h9! A (.call (.builtin "getset_descriptor.__get__") (dG! [ou!,ac!,ap!])) R (eZ! h g d t):=by
 have li:(eZ! h g d t:nR!).TypeIs ou! "getset_descriptor":=_cb;have L1:=looks_mroIn (M:=h9!) X Fx.ob;rw[<- F.owner_object_class]at L1;refine codeAny_call_builtin F.slot_gs_get.plain F.entry_gs_get (F.slot_gs_get.check _ _ _ _ _ _ _ _ li (F.args_gs_get _ _ _) ?_);repeat (any_goals (first | assumption | (with_reducible refine _aP hx ?_;rw[hc]) | (with_reducible refine L1.at ?_) | wp_step))
 refine⟨Code.quiet_builtin _ (by decide +kernel),codeAny_builtin F.entry_object_class ?_⟩;repeat (any_goals (first | assumption | (with_reducible refine _aP hx ?_;rw[hc]) | wp_step))
theorem z5x{tk:Tok}{Q:Fin->ev!}(X:hr!)(Fx:ph! K C)(hx:cG! a)(hc:gd!=ap!)(hq:Q (.done (.ret ap!)) (eZ! h g d t)): cB! w A (Builtin.«object.__getattribute__» (dG! [ac!,.str o2! tk])) Q E (eZ! h g d t):=by
 have li:(eZ! h g d t:nR!).TypeIs ou! "getset_descriptor":=_cb;have L4:=looks_findIn (M:=h9!) X Fx.cl;have f5:=_cb;have f6:=F.slot_gs_get.lookup;have f7:=F.slot_gs_set.lookup;repeat (any_goals (first | assumption | (with_reducible refine _aP hx ?_;rw[hc]) | (with_reducible refine L4.at ?_) | wp_step))
 refine z9A X Fx hx hc ?_;repeat (any_goals (first | assumption | wp_step))
theorem zbJ{M:Model}{dm:Value}{Q:Unit->ev!}(X:hr!)(Fx:ph! K C)(hx:cG! a)(hc:gd!=ap!)(hq:Q () (eZ! h g d t)):wpAny M A (checkBuiltinCall mX! (dG! [ac!,dm])) Q E (eZ! h g d t):=by
 have hk:builtinKind mX!=b! .slot:=by decide +kernel
 have dM:splitId mX!=b! ("BaseException","__getattribute__"):=by decide +kernel
 have L1:=looks_mroIn (M:=M) X Fx.be;have ha:=F.args_bexc_ga ac! dm;simp only[checkBuiltinCall,hk,dM];refine _a ?_
 ·unfold isInstance;repeat (first | (with_reducible refine _aP hx ?_;rw[hc]) | (with_reducible refine L1.at ?_) | wp_step)
  exact hq
theorem z7t{tk:Tok}{R:Result->ev!}(X:hr!)(Fx:ph! K C)(hx:cG! a)(hc:gd!=ap!)(hq:R (l7! ap!) (eZ! h g d t)): kC! h9! A (.call (.builtin mX!) (dG! [ac!,.str o2! tk])) R (eZ! h g d t):= codeAny_call_builtin F.attrBase_ValueError.ga.plain F.entry_bexc_ga (zbJ X Fx hx hc (z5x X Fx hx hc hq))
theorem zaS{tk:Tok}{fill dN:Bool}{Q:bX!}(X:hr!)(Fx:ph! K C)(hx:cG! a)(hc:gd!=ap!)(hq:Q ap! (eZ! h g d t)): cB! w A (getAttrBy ac! (.str o2! tk) fill dN) Q E (eZ! h g d t):=by
 have f3:=F.attrBase_ValueError.ga.bind ac!;have pV:(dN&&onTheHeap (Value.builtin mX!))=r!:=by cases dN<;>rfl
 have gu:(Value.builtin mX!==Value.builtin "object.__getattribute__")=r!:=by decide +kernel
 have iz:(onTheHeap (lj! C)&&Value.builtin mX!==Value.builtin "object.__getattribute__")=r!:=by rw[gu];rfl
 have L1:=looks_findIn (M:=h9!) X Fx.ga;have L2:=looks_findIn (M:=h9!) X Fx.gh;repeat (any_goals (first | assumption | (with_reducible refine _aP hx ?_;rw[hc]) | (with_reducible refine L1.at ?_) | (with_reducible refine L2.at ?_) | wp_step))
 refine z7t X Fx hx hc ?_;repeat (any_goals (first | assumption | wp_step))
theorem z7G{Q:aS!->ev!}(X:hr!)(Fx:ph! K C)(hx:cG! a)(hc:gd!=ap!)(hq:Q (b! ap!) (eZ! h g d (t+1))):cB! w A (getAttr? ac! o2!) Q E (eZ! h g d t):=by
 unfold getAttr? getAttrBy?;repeat (any_goals (first | assumption | with_reducible apply zaS X Fx hx hc | (with_reducible refine _aP hx ?_;rw[hc]) | wp_step))
end
theorem zja{K:Frag}{a C:Addr}(Fx:ph! K C):KitX K ac! ap! (λh=>∃o,cG! a/\gd!=ap!) where
 ty:=λ_ _ _ ⟨_,hx,hc⟩=>zqy hx hc;it:=λ_ _ X _=>by
  obtain⟨dd,cd,sl,ho⟩:=Fx.ty;intro A' Q' E' s' k q;unfold isType loadHead;exact _a (wpAny_loadPart (k _ _ (X _ _ ho)) (_m q))
 ne:=λh tp dd af n sl X fG=>by
  obtain⟨d2,cd,cG,ho⟩:=Fx.ty;cases e:(lj! C==lj! tp) with
  | false=>rfl | true=>
   have e:=eq_of_beq e;cases e;have:=X _ _ ho;rw[fG]at this;simp at this
 ca:=λ{prog w A E Q s} X p hq=>by
  obtain⟨h,g,d,t,os⟩:=s;obtain⟨o,hx,hc⟩:=p;exact z7G X Fx hx hc hq
end PySem
namespace L2
section
variable {X:Cx}{ae:de!}{O:St}{H:Hp}{s:Shared}{A:Around}{E:bX!}{Q:bX!}{b:Bool}
theorem zff(I:K!) (rx:ww x u) (ty:zbX X.K H x t) (ht:H tp=b! (p! cs)) (e:∀af,xl cs af->W.kitAny X.K t af=b! b) (h:∀tk,Q k7! {s with toks:=tk}): gh! aT! X.w A (pU! gF! [u,w! tp]) Q E s:=by
 obtain⟨_,af,vi,o,g1,g2,_,n,g3⟩:=(gV! tp ht);have e:=e af vi;obtain⟨oc,od,oD,os⟩:=o;cases g2;cases g3;cases ty with
 | non=>cases (rx);exact _bs W.kitx_none jp! lr! g1 e (λz=>nomatch z) h | bl y=>cases (rx);exact _bs W.kitx_bool jp! lr! g1 e (λz=>nomatch z) h | int i=>obtain⟨t,q⟩:=(rx);cases q;exact _bs W.kitx_int jp! lr! g1 e (λz=>nomatch z) h | str y=>obtain⟨t,q⟩:=(rx);cases q;exact _bs W.kitx_str jp! lr! g1 e (λz=>nomatch z) h | flt y=>obtain⟨t,q⟩:=(rx);cases q;exact _bs W.kitx_float jp! lr! g1 e (λz=>nomatch z) h | @lst a xs ea=>
  cases (rx);obtain⟨_,_,n,_,h1⟩:=(gV! a ea);exact _bs W.kitx_list jp! (b5! h1) g1 e (λz=>nomatch z) h | @frz a ob xs ea=>
  cases (rx);obtain⟨_,_,_,n,_,h1⟩:=(gV! a ea);exact _bs W.kitx_list jp! (b5! h1) g1 e (λz=>nomatch z) h | @tup a xs ea=>
  cases (rx);obtain⟨_,_,_,p⟩:=(gV! a ea);obtain⟨o,h1,h2,_⟩:=p;exact _bs W.kitx_tuple jp! (cr! h1 h2) g1 e (λz=>nomatch z) h | @dK a ah ea=>
  cases (rx);obtain⟨_,_,vs,_,p⟩:=(gV! a ea);obtain⟨o,es,ep,h1,h2,_⟩:=p;exact _bs W.kitx_dict jp! (cr! h1 h2.1) g1 e (λz=>nomatch z) h | @dT a ah ea=>
  cases (rx);obtain⟨_,_,xs,_,o,es,ep,h1,h2,_⟩:=(gV! a ea);exact _bs W.kitx_dict jp! (cr! h1 h2.1) g1 e (λz=>nomatch z) h | @ins a C dx fs ea cl ha hn fW hm=>
  cases (rx);obtain⟨mA,Oo,_⟩:=zgR eL! ea;obtain⟨od,J,_⟩:=Oo.look;exact _bs (W.kitx_own (cl.get _) cl.hd ha hn fW hm) jp! J g1 e (λz=>nomatch z) h
end
theorem zbp: l2! X gF! (∃x t tp T U b,xs=[x,w! tp]/\H tp=b! (p! [.ty T,.ty U])/\zbX X.K H x t/\W.kitAny X.K t [kn!,ar! U]=b! b/\Q (.bl b) H):=by
 intro ae s O H xs us Q I r h;obtain⟨x,t,tp,T,U,b,rfl,fG,ht,hk,q⟩:=h;obtain⟨u,v,rfl,ru,rv⟩:=vals2 r;cases rv;refine zff I ru ht fG (λaf vi=>?_) λtk=>bn! (.bl b) H it! q;obtain⟨u1,u2,rfl,r1,r2⟩:=vals2 vi;cases r1;cases r2;exact hk
end L2
namespace Dd
open L2
section
variable {X:Cx}{E:XK}{e a b c tg:Expr}{es:aE!}{pos:Pos}{CX:CXT}
theorem zmk{K:W.Frag} (h:t∈["NoneType",ia!,eo!,gc!,cV!,ea!,nB!])(hT:T∈[eo!,ia!,gc!,cV!,ea!])(hU:U∈[eo!,ia!,gc!,cV!,ea!]):W.kitAny K (ar! t) [kn!,ar! U]=b! (isT T t||isT U t):=by
 simp only[W.kitAny,zd1 h T hT,zd1 h U hU];cases isT T t<;>cases isT U t<;>rfl
noncomputable def zsR(T U:String):D->bl!:=λd s=>match tyD d with | some t=>bz! (isT T t||isT U t) | none=>.no
noncomputable def zsr(T U:String)(f:FE):FE:=eO! (d5! (zsR T U d s1))
theorem zsw{p p1 p2 pt:Pos}{k:Nat} (hT:T∈[eo!,ia!,gc!,cV!,ea!])(hU:U∈[eo!,ia!,gc!,cV!,ea!])(hv:kP! tn kn!)(nM:kP! un (ar! U))(hg:ix! gF!)(hm:dF! gF!)(nN:ix! tn)(lm:dF! tn)(cN:ix! un)(cn:dF! un)(he:fp! f) (hn:j5! (lT! tn))(hd:ce! (tn==cH!))(ff:j5! (lT! un))(eP:ce! (un==cH!)) (hs:A! (aw! [e,hH! [.Name tn p1,fF! un] k pt]=dQ!::aw! [hH! [.Name tn p1,fF! un] k pt]))(au:d4! [hH! [.Name tn p1,fF! un] k pt] (·.1)): V! (dl! gF! p [e,hH! [.Name tn p1,fF! un] k pt]) (zsr T U f):= yk (z2O zbp hg hm (by decide +kernel) (wz he (wz (zkQ (wz (z9n nN lm hv (show ww (.ty T) kn! from rfl) hn hd) (wz (z9n cN cn nM (show ww (.ty U) (ar! U) from rfl) ff eP) z0y (zr ..)) (zr ..))) z0y (zdC ..)) hs) (by decide) (by decide) hs au) λO H Q ⟨Y,ρ,s,r,en,h⟩=>by
  refine yJ (k:=kD! (zsR T U d s1)) r en h _ λv H1 Y1 s1 d r1 av dn stp h1=>?_;unfold zsR at h1;split at h1
  ·rename_i t et;refine⟨(show 2<=aW! from by decide +kernel),λtp fG=>?_⟩;have bj:=vD.lay (o:=p! [.ty T,.ty U]) r1 fG (by intro _ z;cases z);obtain⟨q1,q2⟩:=zlh bj.rep (rC! bj) et;exact⟨v,ar! t,tp,T,U,isT T t||isT U t,rfl,yu,q1,zmk q2 hT hU,h1 _ _ _ bj wv⟩
  ·exact h1.elim
end
end Dd
namespace L2
open MeetsSeq MeetsSeq2 SeqAt
def zqw(k:Bool):eC! dR!
 | .bool b=>b==k | _=>false
theorem z9C:∀{bs:List Bool}{af:List Value},xl (bs.map V.bl) af->af=bs.map Value.bool
 | [],_,.nil=>rfl | b::bs,_,.cons r rs=>by
  cases r;rw[z9C rs];rfl
theorem zlu:∀(bs:List Bool)(k:Bool)(m:Nat)(hm:m<bs.length),m<r3!->(bs[m]==k)=r!
 | [],k,m,hm,_=>bS! hm (by simp) | b::bs,k,m,hm,h=>by
  rw[List.idxOf_cons]at h;cases e:b==k with
  | true=>rw[e]at h;simp at h | false=>
   rw[e]at h;cases m with
   | zero=>simpa using e | succ m=>simpa using zlu bs k m (by simpa using hm) (by simpa using h)
section
variable {X:Cx}
def zrU:V->aG!->Hp->eA!:=λx vs H Q=>∃(p:Addr)(bs:List Bool)(k:Bool),x=b6!/\vs=[.bl k]/\Rd H p (ad! (bs.map V.bl))/\Q (d! (bs.count k:Nat)) H
theorem zd0:MtR X "list.count" zrU:=by
 intro ae s O H x vs v us Q I rx rv h;obtain⟨p,bs,k,rfl,rfl,hp,q⟩:=h;cases rx;obtain⟨u,rfl,ru⟩:=vals1 rv;cases ru;obtain⟨_,af,n,r,e1⟩:=hp.ok eL!;cases z9C r;refine _bi PySem.F.slot_list_count (b5! e1) PySem.F.entry_list_count (PySem.F.args_list_count_2 _ _) (list_countAt p _ n _ _ (.bool k) (zqw k)) ⟨e1,cW! ?_,?_⟩
 ·obtain⟨b,_,rfl⟩:=_t.mp (_du.mp hy);exact EqAt.bool_bool b k
 ·have e:(List.map Value.bool bs).countP (zqw k)=bs.count k:=by rw[List.countP_map];rfl
  refine⟨d! (bs.count k),H,mf! (gG! e),as! fQ! ?_,q⟩;rw[<- e]
def zse:V->aG!->Hp->eA!:=λx vs H Q=>∃(p:Addr)(bs:List Bool)(k:Bool),x=b6!/\vs=[.bl k]/\Rd H p (ad! (bs.map V.bl))/\k∈bs/\qv!<2 ^ 62/\Q (d! (r3!:Nat)) H
theorem zcv:MtR X "list.index" zse:=by
 intro ae s O H x vs v us Q I rx rv h;obtain⟨p,bs,k,rfl,rfl,hp,hk,hl,q⟩:=h;cases rx;obtain⟨u,rfl,ru⟩:=vals1 rv;cases ru;obtain⟨_,af,n,r,e1⟩:=hp.ok eL!;cases z9C r;have hj:r3!<qv!:=List.idxOf_lt_length_iff.mpr hk;refine _bi PySem.F.slot_list_index (b5! e1) PySem.F.entry_list_index (PySem.F.args_list_index_2 _ _) (list_indexAt p _ n _ _ (.bool k) (zqw k) r3! (by simpa using hj) (by lia) ?_ ?_) ⟨e1,cW! ?_,⟨d! r3!,H,mf! (gG! e),co! fQ!,q⟩⟩;·simp[zqw,(_cP hj)]
 ·intro m hm bx;simpa[zqw] using (zlu bs k m (by simpa using hm) bx)
 ·obtain⟨b,_,rfl⟩:=_t.mp (_du.mp hy);exact EqAt.bool_bool b k
end
end L2
namespace Dd
open L2
section
variable {X:Cx}{E:XK}{o e:Expr}{pos:Pos}
noncomputable def zpX(fo fv:FE):FE:=b0! (fo ρ s) (λo s1=>match o with
 | .lst ds=>B! (fv ρ s1) (λd s2=>match oc! ds,d with
  | some ns,.bl k=>bD! (d! (ns.count k:Nat)) | _,_=>.no)
 | _=>.no)
theorem ziu{ao:Pos} (ho:V! o fo)(hv:fp! fv)(am:A! (lO! o "count" gw!=gw!)) (aH:dg! (hs! (hP! pos [e]) (! x.1)&&hs! (nA! pos []) (iF! x.1) && bw! (q! [e]+q! ([]:gO!)+(np! ([]:gO!) 0 1)<30))) (ai:dg! (sk! n0!))(hs:A! (aw! [e]=dQ!::aw! []))(aw:d4! [] (·.1)): V! (fw! (mz! o "count") [e] [] pos) (zpX fo fv):= yk (znL _bX PySem.F.slot_list_count PySem.F.type_list_count zd0 ho (wz hv z0y hs) am aH ai hs aw) λO H Q ⟨Y,ρ,s,r,en,h⟩=>by
  refine⟨Y,ρ,s,r,en,(okR.bind (Dn:=k3!) h).imp λov H1 ⟨Y1,s1,od,stp,dn,h1⟩=>?_⟩;cases od with
  | lst ds=>
   refine as! (by
    obtain⟨a,ob,vs,rfl,e1,_⟩:=dn;exact y! ⟨rfl,vs,y! (ef! ob e1)⟩) ⟨Y1,ρ,s1,dz!,im!,(okR.bind (Dn:=k3!) h1).imp λv H2 ⟨Y2,s2,d,ag,ax,h2⟩=>?_⟩;split at h2
   ·rename_i ns k ei;cases kS ax;obtain⟨a,ob,vs,rfl,e1,e2⟩:=lV!;rw[z5b ei]at e2;cases z53 e2;exact⟨a,ns,k,rfl,rfl,ef! ob e1,h2.here ju! yA⟩
   ·exact h2.elim | _=>exact h1.elim
noncomputable def zpN(fo fv:FE):FE:=b0! (fo ρ s) (λo s1=>match o with
 | .lst ds=>B! (fv ρ s1) (λd s2=>match oc! ds,d with
  | some ns,.bl k=>ab! (k∈ns/\eN!<2 ^ 62) (bD! (d! (pR!:Nat))) | _,_=>.no)
 | _=>.no)
theorem zjR{ao:Pos} (ho:V! o fo)(hv:fp! fv)(am:A! (lO! o "index" gw!=gw!)) (aH:dg! (hs! (hP! pos [e]) (! x.1)&&hs! (nA! pos []) (iF! x.1) && bw! (q! [e]+q! ([]:gO!)+(np! ([]:gO!) 0 1)<30))) (ai:dg! (sk! n0!))(hs:A! (aw! [e]=dQ!::aw! []))(aw:d4! [] (·.1)): V! (fw! (mz! o "index") [e] [] pos) (zpN fo fv):= yk (znL _bX PySem.F.slot_list_index PySem.F.type_list_index zcv ho (wz hv z0y hs) am aH ai hs aw) λO H Q ⟨Y,ρ,s,r,en,h⟩=>by
  refine⟨Y,ρ,s,r,en,(okR.bind (Dn:=k3!) h).imp λov H1 ⟨Y1,s1,od,stp,dn,h1⟩=>?_⟩;cases od with
  | lst ds=>
   refine as! (by
    obtain⟨a,ob,vs,rfl,e1,_⟩:=dn;exact y! ⟨rfl,vs,y! (ef! ob e1)⟩) ⟨Y1,ρ,s1,dz!,im!,(okR.bind (Dn:=k3!) h1).imp λv H2 ⟨Y2,s2,d,ag,ax,h2⟩=>?_⟩;split at h2
   ·rename_i ns k ei;split at h2
    ·rename_i hk;cases kS ax;obtain⟨a,ob,vs,rfl,e1,e2⟩:=lV!;rw[z5b ei]at e2;cases z53 e2;exact⟨a,ns,k,rfl,rfl,ef! ob e1,hk.1,hk.2,h2.here ju! yA⟩
    ·exact h2.elim
   ·exact h2.elim | _=>exact h1.elim
end
end Dd
namespace L2
structure jr(k:Nat)(A:Around):g! where
 dp:qg!+3*k+5<recursionLimit
 un:o8!+16*k+200<nc!
 gd:A.guards=b! []
theorem z1U.h{k:Nat}{A:Around}(r:hE! A):jr k A:=aV! r.dp r.un r.gd
theorem jr.mono{j k:Nat}{A:Around}(r:jr k A)(h:j<=k):jr j A:=⟨by have:=r.dp;omega,by have:=r.un;omega,r.gd⟩
theorem jr.deeper{k:Nat}{A:Around}(r:jr (k+1) A)(env:Env):jr k (A.deeper env):= ⟨by have:=r.dp;show qg!+1+3*k+5<_;omega,by have:=r.un;show o8!+3+16*k+200<_;omega,r.gd⟩
theorem jr.depth{k:Nat}{A:Around}(r:jr k A):qg!<recursionLimit:=by have:=r.dp;omega
theorem jr.units{k:Nat}{A:Around}(r:jr k A):o8!+64<nc!:=by have:=r.un;omega
structure zhp(P:Program)(w:World)(K:W.Frag)(mg:Str->aS!)(base:Heap)(CX:CXT)(k:Nat)(f:Addr)(fd:FuncData)(ps:aq!)(sp:Sp):g! where
 len:∀vs H Q E,sp vs H Q E->mu!
 run:∀(A:Around)(outer:List Env)(s:Shared)(H:Hp)(args:Args)(us:List Value)(vs:List V)(Q:VK)(E:XK),jr k A->zr2 P w K mg O! A au! s H->qh! s fd jU! l0!->kl! vs->sp vs H Q E-> kC! (model P w) A (.call fj! jU!) (CR CX au! P w H s Q E) s
theorem zom{CX:CXT} {P:Program} {w:World} {K:W.Frag} {mg:Str->aS!} {base:Heap} {k:Nat} {f:Addr} {name qual:Str} {params:Arguments} {body:nt!} {scope:Scope} {dV kV aE pm aj ct oc:Value} {an od:oI!} {cE:Array aS!} {N ps:aq!} {sp:Sp} (lk:mW! f=b! ⟨oc,od,.func (W.fnOf iJ! av! params dT! by! dV kV aE pm an aj ct),cE⟩) (bC:W.codeIn K aj av!=c!) (S:zq N ps by!) (len:∀vs H Q E,sp vs H Q E->mu!) (aZ:∀(A:Around) (outer:List Env) (s:Shared) (H:Hp) (vs:List V) (Q:VK) (E:XK),jr k (kf! av! by! f aj)->sp vs H Q E-> ∃t,PSs (z4M CX P w K mg O! N av! by! f aj A au! s H E) dT! t/\t {nx:=λ_ H'=>Q aJ! H',rt:=Q} (oZ! N) H): zhp P w K mg O! CX (k+1) f (W.fnOf iJ! av! params dT! by! dV kV aE pm an aj ct) ps sp:=by
 refine⟨len,λA outer s H args us vs Q E hr e0 hb r cF=>?_⟩;have hl:=len _ _ _ _ cF;have KX:K.In F!:=e0.mod.kin.keeps (gG! (e0.bs b o e).1);have nO:s.heap.NoLimit:=e0.mod.nolimit.keeps (gG! (e0.bs b o e).1);have fH:∀y∈l0!,jV! y.1=b! o4!\/(jV! y.1=ds!/\ip! (o9! (mo! dO! []) y.1)):=λ⟨n,v⟩ hy=>by
  rcases S.par n (_ad hy).1 with q | q;·exact y! q
  ·exact ef! q (_dn _ _ _ (y! q))
 refine codeAny_call_function hr.depth (KX _ _ lk) rfl S.co S.gen rfl (W.codeRec_of KX bC) (hb _ _ _ _ ?_);refine wpAny_newFunctionEnv_cells S.kind fH λenv he s1 x=>?_;subst he;refine⟨nO.keeps x.toInCall.keep,codeAny_func ?_⟩;obtain⟨t,ht,hq⟩:=aZ A au! s H vs Q E (hr.deeper _) cF;have I:Inv (z4M CX P w K mg O! N av! by! f aj A au! s H E) [] (oZ! N) H s1:=zaY S e0 hl r x;refine _Z (ht [] s1 (oZ! N) H _ I hq) (λfl s' hs=>?_) λe s' hs=>hs;have fin:∀{O':St} {H':Hp} {v:V} {u:Value},Inv (z4M CX P w K mg O! N av! by! f aj A au! s H E) [] O' H' s'->ww v u->Q v H'->CE au! P w H s Q u s':= λ{O' H' v u} J rv q=>⟨v,H',J.os,J.bare,J.base,J.hok,rv,q⟩;cases fl with
 | ret u=>
  obtain⟨v,O',H',J,rv,q⟩:=hs;exact fin J rv q | next=>
  obtain⟨O',H',J,q⟩:=hs;exact fin (v:=V.non) (u:=Value.none) J rfl q | brk=>
  obtain⟨_,_,_,q⟩:=hs;exact me! q | cont=>
  obtain⟨_,_,_,q⟩:=hs;exact me! q
section
variable {X:Cx}{CX:CXT}{k:Nat}{f:Addr}{fd:FuncData}{ps:aq!}{sp:Sp}{ds:bU!}{bL:aG!}{E:XK}{x:Str}{p pos:Pos}{e:Expr}{es:aE!}{t:TA}
theorem zms{ae:de!}{O:St}{H:Hp}{s:Shared}{Q:VK}{us:bU!}{vs:aG!}(F:zhp aT! X.w X.K fu! fb! CX k f fd ps sp)(hr:jr k X.A)(hb:kp! X.K ps ds)(hd:xl bL ds)(hx:kW! X E) (I:K!)(r:kl! vs)(h:sp (vs++bL) H Q E):bO! (call fj! us) (EP X ae O Q) s:=by
 have r2:xl (vs++bL) (us++ds):=r.append hd;have hl:q! (us++ds)=a5!:=by rw[<- r2.length];exact F.len _ _ _ _ h
 refine wpAny_call (_dE (F.run X.A jl! s H (dG! us) (us++ds) (vs++bL) Q E hr I.env0 (hb s us jp! hl) r2 h) λr s' hq=>?_);cases r with
 | error e=>exact hx ae O H s e s' I hq | ok fl=> cases fl with
  | ret u=>exact I.after hq | next=>exact rh! | brk=>exact rh! | cont=>exact rh!
theorem ziG(F:zhp aT! X.w X.K fu! fb! CX k f fd ps sp) (hr:jr k X.A) (hg:e7!) (hm:X.mg x=b! fj!) (hk:oL! X.K=c!) (hb:kp! X.K ps ds) (hd:xl bL ds) (hx:kW! X E) (ha:PA X (e::es) t) (aG:ce! (x==cH!)) (he:A! (aw! (e::es)=dQ!::iw!)) (au:d4! es (·.1)): S! (dl! x p (e::es)) (zmn sp bL E t):=by
 intro ae s O H Q I h;refine _aq (z3F I hg hm ?_ aG);refine _dF (h₀:=X.base) I.ok.mod.kin hk (thn (ha pos ae s O H _ I h) λus s1 ⟨vs,H1,I1,r,q⟩=>as! I1.kIn ?_) he au;exact zms F hr hb hd hx I1 r q
end
section
variable {P:Program}{w:World}{K:W.Frag}{mg:Str->aS!}{base:Heap}
theorem Fun.okH{x qual:Str}{st:Stmt}{f:Addr}{fd:FuncData}{N ps:aq!}{k:Nat}{sp:Sp}(F:Fun K x av! st f fd)(S:R! N ps st)(len:∀vs H Q E,sp vs H Q E->mu!) (aZ:∀(aj:Value)(A:Around)(outer:List Env)(s:Shared)(H:Hp)(vs:List V)(Q:VK)(E:XK),jr k (kf! av! c2! f aj)->sp vs H Q E-> ∃t,PSs (z4M CX0 P w K mg O! N av! c2! f aj A au! s H E).nox h6! t/\t {nx:=λ_ H'=>Q aJ! H',rt:=Q} (oZ! N) H):zhp P w K mg O! CX0 (k+1) f fd ps sp:=by
 obtain⟨oc,od,kV,aE,pm,an,aj,ct,cE,rfl,lk,bC⟩:=F.ex;refine zom lk bC S len λA outer s H vs Q E hr cF=>?_;obtain⟨t,h,q⟩:=aZ aj A au! s H vs Q E hr cF;exact aV! t h.nox q
end
end L2
namespace Dd
open L2
def zr3(P:Program)(w:World)(K:W.Frag)(mg:Str->aS!)(base:Heap)(CX:CXT)(x:Str)(n:Nat)(M:Mir):g!:= ∃f fd ps,zhp P w K mg O! CX n f fd ps (ziT ⟨mg,K⟩ M)/\kp! K ps []/\oL! K=c!/\fn! x fj!
section
variable {X:Cx}{E:XK}{e:Expr}{es:aE!}{pos:Pos}{CX:CXT}
theorem znI{x:Str} {p:Pos} {n:Nat} {M:Mir} {f:FA} (F:zr3 aT! X.w X.K fu! fb! CX x n M) (hr:jr n X.A) (hx:kW! X E) (hg:e7!) (ha:RA X E (e::es) f) (aG:ce! (x==cH!)) (he:A! (aw! (e::es)=dQ!::iw!)) (au:d4! es (·.1)):V! (dl! x p (e::es)) (ze M f):=by
 obtain⟨fa,fd,ps,F,hb,hk,hm⟩:=F;refine yk (ziG F hr hg hm hk hb cu! hx ha aG he au) λO H Q ⟨Y,ρ,s,r,en,h⟩=>?_;refine qh (k:=nh! (M xs s1)) r en h _ λvs H2 Y2 s2 ds r2 aX ax ag h3=>?_;rw[_aK];exact⟨Y2,s2,ds,r2,ax,h3⟩
end
section
variable {P:Program}{w:World}{K:W.Frag}{mg:Str->aS!}{base:Heap}
theorem zmX{x qual:Str}{st:Stmt}{f:Addr}{fd:FuncData}{N ps:aq!}{k n:Nat}{fs:FS}(F:Fun K x av! st f fd)(hm:fn! x fj!)(hb:kp! K ps [])(S:R! N ps st)(hn:a5!=n) (body:sf! (jr k (kf! av! c2! f aj)) (RSs (z4M CX0 P w K mg O! N av! c2! f aj A au! s H E).nox E0 h6! fs)):zr3 P w K mg O! CX0 x (k+1) (Mof N n fs):=by
 subst hn;refine⟨f,fd,ps,F.okH S (qz! ?_) (λaj A outer s H vs Q E hr h=>?_),hb,F.kp,hm⟩
 ·obtain⟨Y,s,ds,_,dn,h⟩:=h;unfold Mof at h;split at h;·rename_i e;rw[dn.length];exact e
  ·exact h.elim
 ·obtain⟨Y,cr,ds,r,dn,h⟩:=h;refine⟨_,body aj A au! s H E hr,Y,zv N ds,cr,r,z15 dn,?_⟩;unfold Mof at h;split at h
  ·split at h
   ·rename_i d s' e;rw[e];intro fv H' Y' stp fd;cases fv with
    | rt v=>exact h v H' Y' stp fd | _=>exact bZ! (show False from fd)
   ·rename_i ρ s' e;rw[e];intro fv H' Y' stp fd;cases fv with
    | nx v=>exact h aJ! H' Y' stp rfl | _=>exact bZ! (show False from fd)
   ·exact h.elim
  ·exact h.elim
end
theorem z4j: l2! X gF! (∃(a C:Addr)(y:V)(b:Bool),xs=[ac!,y]/\ci! (zl6 C a)/\PySem.ExcCls X.K C/\(∀c,ww y c->mY! X.K ap! c=b! b)/\Q (.bl b) H):=by
 intro ae s O H xs us Q I r h;obtain⟨a,C,y,b,rfl,ha,hc,hk,q⟩:=h;obtain⟨u,v,rfl,ru,rv⟩:=vals2 r;cases ru;obtain⟨⟨o,vs,h1,h2,_⟩,_⟩:=(gV! a ha);exact la! (PySem.zja hc) (cr! h1 h2) (hk v rv) (λz=>nomatch z) (λtk=>bn! (.bl b) H it! q)
structure zds(mg:Gm)(rs cs:aq!):g! where
 cls:∀c∈rs,∀C,mg.m c=b! ap!->PySem.ExcCls nf! C
 has:∀d∈cs,∃D,mg.m d=b! (w! D)
 one:∀c∈rs,∀d∈cs,∀C D,mg.m c=b! ap!->mg.m d=b! (w! D)->mY! nf! ap! (w! D)=b! (c==d)
 val:∀c∈rs,∀C,mg.m c=b! ap!->mY! nf! ap! (ar! iA!)=b! c!
def zsb(rs:aq!)(T:Str):D->bl!
 | .exc c,s=>ab! (c∈rs) (bz! (c==T)) | _,_=>.no
noncomputable def z9V(rs:aq!)(T:Str)(f:FE):FE:=eO! (d5! (zsb rs T d s1))
def zsd(rs:aq!):D->bl!
 | .exc c,s=>ab! (c∈rs) b3! | _,_=>.no
noncomputable def zue(rs:aq!)(f:FE):FE:=eO! (d5! (zsd rs d s1))
section
variable {X:Cx}{E:XK}{e:Expr}{pos:Pos}
theorem z0R{p p2:Pos} (FM:zds J! rs cs)(hT:T∈cs)(hg:ix! gF!)(hm:dF! gF!)(cN:ix! T)(he:fp! f) (hd:ce! (T==cH!)) (hs:A! (aw! [e,fF! T]=dQ!::aw! [fF! T]))(au:d4! [fF! T] (·.1)):V! (dl! gF! p [e,fF! T]) (z9V rs T f):=by
 obtain⟨D,hD⟩:=FM.has T hT;exact yk (z2O z4j hg hm (by decide +kernel) (wz he (wz (z6J cN hD (show ww (w! D) (w! D) from rfl) hd) z0y (zr ..)) hs) (by decide) (by decide) hs au) λO H Q ⟨Y,ρ,s,r,en,h⟩=>by
  refine yJ (k:=kD! (zsb rs T d s1)) r en h _ λv H1 Y1 s1 d r1 av dn stp h1=>?_;unfold zsb at h1;split at h1
  ·rename_i c;split at h1
   ·rename_i hc;obtain⟨a,C,rfl,hC,hH⟩:=dn;exact⟨a,C,w! D,c==T,rfl,hH,FM.cls c hc C hC,λz hz=>by cases hz;exact FM.one c hc T hT C D hC hD,okR.here (b:=V.bl (c==T)) h1 r1 wv⟩
   ·exact h1.elim
  ·exact h1.elim
theorem zru{p p2:Pos} (FM:zds J! rs cs)(hg:ix! gF!)(hm:dF! gF!)(cN:ix! iA!)(cn:dF! iA!)(he:fp! f) (hs:A! (aw! [e,fF! iA!]=dQ!::aw! [fF! iA!]))(au:d4! [fF! iA!] (·.1)):V! (dl! gF! p [e,fF! iA!]) (zue rs f):= yk (z2O z4j hg hm (by decide +kernel) (wz he (wz (z9n cN cn (by decide +kernel) (show ww (.ty iA!) (ar! iA!) from rfl)) z0y (zr ..)) hs) (by decide) (by decide) hs au) λO H Q ⟨Y,ρ,s,r,en,h⟩=>by
  refine yJ (k:=kD! (zsd rs d s1)) r en h _ λv H1 Y1 s1 d r1 av dn stp h1=>?_;unfold zsd at h1;split at h1
  ·rename_i c;split at h1
   ·rename_i hc;obtain⟨a,C,rfl,hC,hH⟩:=dn;exact⟨a,C,.ty iA!,c!,rfl,hH,FM.cls c hc C hC,λz hz=>by cases hz;exact FM.val c hc C hC,okR.here (b:=V.bl c!) h1 r1 wv⟩
   ·exact h1.elim
  ·exact h1.elim
end
section
variable {X:Cx}{E:XK}{e a b:Expr}{es:aE!}{pos:Pos}{CX:CXT}
theorem zsh(hg:e7!)(hm:X.mg x=b! (w! g))(hd:ce! (x==cH!)):V! (fC! p) (eC (.fn x)):= yk (z6J hg hm (show ww (w! g) (w! g) from rfl) hd) λO H Q ⟨Y,ρ,s,r,en,h⟩=>hi! h (aC! g hm)
theorem zqt(F:Has aT! X.w X.K fu! fb! CX x n M)(hg:e7!)(hd:ce! (x==cH!)):V! (fC! p) (eC (.fn x)):=by
 obtain⟨f,_,_,_,_,_,hm⟩:=F;exact zsh hg hm hd
noncomputable def zhJ(g:FE)(Ms:dD! Mir)(f:FA):FE:=b0! (g ρ s) (λd s1=>match d with
 | .fn y=>match rj! with
  | some M=>B! (f ρ s1) (λxs s2=>M xs s2) | none=>.no
 | _=>.no)
theorem zo6{Ms:dD! Mir} (F:∀y M,rj!=b! M->Has aT! X.w X.K fu! fb! CX y n M) (hr:z1U n X.A) (ig:kW! X E) (hg:V! (rz! b sp) g) (ha:RA X E (e::es) f) (he:A! (aw! (e::es)=dQ!::iw!)) (au:d4! es (·.1)):V! (fw! (rz! b sp) (e::es) [] pos) (zhJ g Ms f):=by
 intro ae s O H Q I ⟨Y,ρ,st,r,en,h⟩;refine _a (thn (hg ae s O H _ I ⟨Y,ρ,st,r,en,okR.bind (Dn:=k3!) h⟩) λu s1 ⟨v,H1,I1,r1,Y1,nP,d,stp,dn,h1⟩=>?_);split at h1
 ·rename_i y;split at h1
  ·rename_i M hM;obtain⟨gg,rfl,cX⟩:=dn;cases r1;obtain⟨fa,fd,ps,Fk,hb,hk,hm⟩:=F y M hM;have e0:gg=fa:=by cases cX.symm.trans hm;rfl
   subst e0;exact _dF (h₀:=X.base) I1.ok.mod.kin hk (thn (ha pos ae s1 O H1 (λvs H2=>ziT J! M (vs++[]) H2 Q E) I1 (qh (k:=nh! (M xs s1)) stp.rep im! h1 _ λvs H2 Y2 s2 ds r2 aX ax ag h3=>by
    rw[_aK];exact⟨Y2,s2,ds,r2,ax,h3⟩)) λus s2 ⟨vs,H2,I2,r2,q⟩=>as! I2.kIn (zep Fk hr hb cu! ig I2 r2 q)) he au
  ·exact h1.elim
 ·exact h1.elim
end
end Dd
namespace PySem
open PySem.AutoSeq1 (wpAny_loadPart')
open MeetsSeq MeetsSeq2 SeqAt
theorem zah(l:Addr) (items:cz!) (n:Nat) (dd:oI!) (sl:Array aS!) (x:Int) (u:Tok) (h2:2<=x) (hx:x<2 ^ 63) (dj:items.isEmpty=r!) (hc:¬ h! hK!*x > (2 ^ 63-1) / 8) (ht:Builtin.Tuple.tupleTooMany (h! hK!*x)=r!) (hs:((mg! og! g8!).foldl (· ++ ·) #[]).size<=aW!): Meets (Builtin.«tuple.__mul__» (dG! [ez!,bx! x u])) (λA R s=>fU! l ({cls:=dC!,dict:=dd,data:=.seq g8! n,slots:=sl})/\R (l7! fV!) {s with heap:=id! ({cls:=dC!,data:=.seq ((mg! og! g8!).foldl (· ++ ·) #[])})}):= rd! (by
  obtain⟨hl,h⟩:=h;have e1:(x==1)=r!:=by simp;lia
  have e2:jd! x 0=r!:=by simp;lia
  wp_walk using _au hl;rw[_q (by simp;lia)];wp_walk using _au hl;rw[_q hc];wp_walk;exact aC! _ h)
theorem z8Z(l:Addr)(items:cz!)(n:Nat)(dd:oI!)(sl:Array aS!)(u:Tok): Meets (Builtin.«tuple.__mul__» (dG! [ez!,bx! 1 u])) (λA R s=>fU! l ({cls:=dC!,dict:=dd,data:=.seq g8! n,slots:=sl})/\R (l7! ez!) s):= rd! (by
  obtain⟨hl,h⟩:=h;wp_walk using _au hl;exact aC! _ h)
theorem kY:fillsNumberSlot dC! "mul"=mC!:= fillsNumberSlot_seq (id:="tuple.__mul__") (r:=hV! "tuple.__rmul__") _cg.lookup (by decide +kernel) F.slot_tuple_rmul.lookup (by decide +kernel)
theorem z4d:seqRepeat? dC!=dS! (hV! "tuple.__mul__"):=by
 unfold seqRepeat?;rw[seqSlot_of (T:=cV!) (name:="__mul__") (id:="tuple.__mul__") _cg.lookup (by decide +kernel),seqSlot_of (T:=cV!) (name:="__rmul__") (id:="tuple.__rmul__") F.slot_tuple_rmul.lookup (by decide +kernel)];rfl
theorem jz(a:Int)(t:Tok)(l:Addr)(items:cz!)(n:Nat)(dd:oI!)(sl:Array aS!): Meets (Builtin.«int.__rmul__» (dG! [b7! a,ez!])) (λ_ R s=>fU! l ({cls:=dC!,dict:=dd,data:=.seq g8! n,slots:=sl})/\R (l7! Value.notImplemented) s):= rd! (by obtain⟨hl,h⟩:=h;wp_walk;exact aC! _ h)
end PySem
namespace L2
section
variable {X:Cx}
def zt5:R2:=hI! (∃l k xs,x=ez!/\y=d! k/\H l=b! ah!/\1<=k/\a3! xs/\x!*dU!<=aW!/\ ((k=1->Q ez! H)/\∀p,gB!->Q b6! (fL! (p! (hO! dU! xs)))))
theorem zo2:ny! zt5:=by
 intro ae s O H x y v u Q I rx ry h;obtain⟨l,k,xs,rfl,rfl,hH,h1,dj,hz,q1,q⟩:=h;cases rx;obtain⟨t,rfl⟩:=ry;obtain⟨z,af,r,o,e,c1,d1,n,w1⟩:=(gV! l hH);obtain⟨cls,dd,data,sl⟩:=o;subst c1 d1 w1;have hl:x!=jW!:=by have:=r.length;lia
 have hp:0<jW!:=by rw[<- hl];exact _bN.mpr dj
 have hk:dX! dU!=k:=by lia
 have ap:jW!*dU!<=aW!:=by rw[<- hl];exact hz
 have nQ:dU!<=aW!:=_H (Nat.le_mul_of_pos_left _ hp) ap;have hS:aW!<=(2 ^ 63-1) / 8:=by decide
 have nR:k<2 ^ 63:=by lia
 have hm:dX! iL!*k=(jW!*dU!:Nat):=by rw[_s,Int.natCast_mul,hk]
 by_cases ho:k=1
 ·subst ho;exact _bI (T:=cV!) (U:=eo!) (by decide) (b5! e) (λs'=>_cd s' 1 t) kY F.fills_int_mul _bq z4d _dq.lookup (_bi _bq (_cd s 1 t) _dr (_c2 _ _) (jz 1 t l fs! n _ sl) ⟨e,rfl,b5! e,_bi _cg (b5! e) F.entry_tuple_mul (F.args_tuple_mul_2 _ _) (z8Z l fs! n _ sl t) ⟨e,bn! ez! H I (q1 rfl)⟩⟩)
 ·have fI:List.foldl (λx1 x2=>x1++x2) #[] (mg! dU! fs!)=(mg! dU! af).flatten.toArray:=by
   have:=foldl_rep af dU! [];exact this
  refine _bI (T:=cV!) (U:=eo!) (by decide) (b5! e) (λs'=>_cd s' k t) kY F.fills_int_mul _bq z4d _dq.lookup (_bi _bq (_cd s k t) _dr (_c2 _ _) (jz k t l fs! n _ sl) ⟨e,rfl,b5! e,_bi _cg (b5! e) F.entry_tuple_mul (F.args_tuple_mul_2 _ _) (zah l fs! n _ sl k t (by lia) nR (by cases af with | nil=>simp at hp | cons a b=>rfl) (by lia) (by exact _ap (by lia)) (by rw[fI,_s,len_rep,_dI];exact ap)) ⟨e,?_⟩⟩);rw[fI];exact⟨w! _,_,I.laid (o:=p! (hO! dU! xs)) (t':=s.toks) (λb u q=>_g _ q) al! ⟨(by rw[len_rep,_dI];exact hz),_,r.rep dU!,zfo.new _ _⟩,rfl,q _ I.fresh⟩
end
end L2
namespace Dd
open L2
section
variable {X:Cx}{E:XK}
def zga:D->D->bl!
 | .tup xs,.int k,s=>ab! (1<=k/\a3! xs/\x!*dU!<=cap) (bc! (hO! dU! xs)) | _,_,_=>.no
theorem zqA:∃r,ny! r/\cS! zga:=by
 refine bM! zo2 ?_;intro H Y s d1 d2 v1 v2 Q r h1 h2 h;unfold zga at h;split at h
 ·rename_i xs k;cases yp h2;split at h
  ·rename_i hl;have iA:=h1;obtain⟨a,vs,rfl,e1,e2⟩:=h1;refine⟨a,k,vs,rfl,rfl,e1,hl.1,λz=>?_,by rw[e2.length];exact kO hl.2.2,λhk=>?_,z45 r h (e2.flat_rep _)⟩
   ·subst z;exact hl.2.1 (_aX.mp (by simpa using e2.length.symm))
   ·subst hk;rw[(show hO! (h! 1).toNat xs=xs from by simp)]at h;exact eX! iA
  ·exact h.elim
 ·exact h.elim
@[simp] theorem zmi(xs:v!)(k:Int)(s:Sto):zga ah! (d! k) s=ab! (1<=k/\a3! xs/\x!*dU!<=cap) (bc! (hO! dU! xs)):=U!
end
end Dd
namespace L2
section
variable {X:Cx}{pos:Pos}
theorem Inv.far{O:St} (I:K!):(at!==sysModules)=r!:=by
 obtain⟨o,es,ep,h,_⟩:=I.mod.glob.keeps I.bk;have e1:1<=ma!:=by decide
 exact beq_false_of_ne (_cA (_a4 e1 (_r h)))
def zs3:TE:=λ_ H Q=>∀p,gB!->Q b6! (fL! (.dK []))
theorem zmW:S! (.Dict [] [] pos) zs3:=by
 refine λae s O H Q I hq=>wpAny_Dict_empty ⟨fV!,hS! at! (.dK []),I.laid (o:=.dK []) (t':=s.toks) (λb u e=>_g _ e) al! ⟨g1!,I.far,[],?_,Heap.DictOf.new _⟩,rfl,hq _ (mq! _)⟩;constructor
end
end L2
namespace Dd
open L2
section
variable {X:Cx}{E:XK}{pos:Pos}
theorem zoA:V! (.Dict [] [] pos) (eC .dct):= yk zmW λO H Q ⟨Y,ρ,s,r,en,h⟩=>bq! (by exact h _ _ _ (vD.lay (o:=.dK []) r hp (by intro _ z;cases z)) (by exact aC! p yu))
end
structure XOk(K:W.Frag)(C:Addr):g! where
 exc:rb! K C bmV=c!
 cls:PySem.ExcCls K C
 val:mY! K ap! (ar! iA!)=b! c!
theorem zb6{K:W.Frag} (h:z6P K C=c!):∃d cd sl,mW! C=b! ⟨ar! "type",d,.cls cd,sl⟩:=by
 unfold z6P at h;split at h
 ·rename_i t d cd sl e;have:=jr! h;subst this;exact ck! _ _ _ e
 ·cases h
theorem qP{K:W.Frag} (h:z8T K x=c!):∃C,gl! K x=b! (b! ap!)/\XOk K C:=by
 unfold z8T at h;split at h
 ·rename_i C e;simp only[_R]at h;obtain⟨h1,h2,h3,h4,h5,h6,h7,h8⟩:=h;exact⟨C,e,h1,⟨jr! h2,jr! h3,jr! h4,jr! h5,jr! h6,zb6 h7⟩,jr! h8⟩
 ·cases h
section
variable {K:W.Frag}{mg:Str->aS!}(G:∀(x:Str)(v:Value),gl! K x=b! bP!->fn! x v)
include G
theorem z8V(h:z8T K x=c!):zo9 K mg x:=by
 obtain⟨C,e,o⟩:=qP h;exact⟨C,G x _ e,o.exc⟩
theorem zg9(hr:∀x∈rs,z8T K x=c!)(hc:∀y∈cs,z8T K y=c!)(h:∀x∈rs,∀y∈cs,(z86 K x y).map (·.2)=b! (b! (x==y))):zds ⟨mg,K⟩ rs cs:=by
 have un:∀x C D,gl! K x=b! (b! (w! D))->fn! x ap!->C=D:=λx C D e m=>by
  have:=G x _ e;rw[m]at this;cases this;rfl
 refine⟨λc cT C m=>?_,iM! ?_,λc cT d hd C D mC mD=>?_,λc cT C m=>?_⟩
 ·obtain⟨D,e,o⟩:=qP (hr c cT);cases un c C D e m;exact o.cls
 ·obtain⟨D,e,o⟩:=qP (hc d hd);exact⟨D,G d _ e⟩
 ·obtain⟨C',e1,_⟩:=qP (hr c cT);obtain⟨D',e2,_⟩:=qP (hc d hd);cases un c C C' e1 mC;cases un d D D' e2 mD;have q:=h c cT d hd;unfold z86 at q;rw[e1,e2]at q;simpa using q
 ·obtain⟨D,e,o⟩:=qP (hr c cT);cases un c C D e m;exact o.val
theorem znP(hx:z8T K x=c!)(hy:z8T K y=c!)(h:(z86 K x y).map (·.1)=b! (b! c!)):zrY K mg x y:=by
 obtain⟨C,e1,o1⟩:=qP hx;obtain⟨D,e2,o2⟩:=qP hy;refine⟨C,D,G x _ e1,G y _ e2,o1.exc,o2.exc,λh₀ X=>?_⟩;unfold z86 at h;rw[e1,e2]at h;have hm:W.mroIn K C (w! D)=b! c!:=by simpa using h
 obtain @⟨bm,_,_,_,_,_,_,_,_,_,_,_,_,_,_,_,_,hC,_⟩:=zhP X o1.exc;refine as! hC ?_;obtain⟨d',nS,iR,hl⟩:=o1.cls.ty;have h2:=X _ _ hl;rw[hC]at h2;unfold W.mroIn W.clsIn at hm;rw[hl]at hm;simp only[_N]at hm;split at hm;·cases hm
 ·simp only[_y,Obj.mk.injEq,Data.cls.injEq]at h2;obtain⟨_,_,h3,_⟩:=h2;rw[(show nS.mro=lj! C::bm from by rw[<- h3])]at hm;simpa using hm
end
theorem zav{K:W.Frag}(e:zdD q K=jb! q)(x:Str)(hx:x∈q.xs):z8T K x=c!:=z8C (_at (λz=>z.2.2.2.2.2.1) e) x hx
theorem zqR{K:W.Frag}(e:zdD q K=jb! q)(x y:Str)(b:Bool)(hx:((x,y),b)∈q.ps):z86 K x y=b! (b! b,b! b):=z8C (_at (λz=>z.2.2.2.2.2.2) e) ((x,y),b) hx
theorem zt6(r:jr k A):jr k (A.mark e):=aV! r.dp r.un r.gd
def LeS(f g:FS):g!:=∀ ρ s a s',aM!=cg! a->g ρ s=cg! a
def LeM(M N:Mir):g!:=∀ds s d s',M ds s=cg! d->N ds s=cg! d
theorem LeS.rfl: LeS f f:=λ_ _ _ _ h=>h
theorem LeS.no(h:LeS f g):LeS f (z0v g):=qF! (by rw[zn3,h ρ s a s' e])
theorem LeS.calm: LeS f (z0v f):=LeS.rfl.no
theorem LeS.fNo: LeS fNo g:=λ_ _ _ _ h=>by cases h
theorem LeM.mof(h:LeS f g):LeM (Mof N n f) (kX N n g):=λds s d s' e=>by
 unfold Mof at e;unfold kX;split at e
 ·rename_i hl;rw[_i hl];split at e
  ·rename_i d' s1 e1;rw[h _ _ _ _ e1];exact e
  ·rename_i ρ s1 e1;rw[h _ _ _ _ e1];exact e
  ·cases e
 ·cases e
def LeE(f g:FE):g!:=∀ ρ s a s',aM!=cg! a->g ρ s=cg! a
theorem z2g{r:R α} {b:β} (h:r.bind k=cg! b):∃a s1,r=M! a/\k a s1=cg! b:=by cases r with
 | ok a s=>exact⟨a,s,Eq.refl _,h⟩ | ex c s=>cases h | no=>cases h
theorem LeS.seq(h:LeS f f')(h2:LeS g g'):LeS (zx f g) (zx f' g'):=qF! (by
 obtain⟨fl,s1,e1,e2⟩:=z2g e;show B! (f' ρ s) _=_;rw[h _ _ _ _ e1];cases fl with
 | nx ρ'=>exact h2 _ _ _ _ e2 | _=>exact e2)
theorem LeS.drop(h:LeE f f'):LeS (we f) (we f'):=qF! (by
 obtain⟨d,s1,e1,e2⟩:=z2g e;show B! (f' ρ s) _=_;rw[h _ _ _ _ e1];exact e2)
theorem LeS.set(h:LeE f f'):LeS (yq i f) (yq i f'):=qF! (by
 obtain⟨d,s1,e1,e2⟩:=z2g e;show B! (f' ρ s) _=_;rw[h _ _ _ _ e1];exact e2)
theorem LeE.call(h:LeM M M'):LeE (ze M f) (ze M' f):=qF! (by
 obtain⟨d,s1,e1,e2⟩:=z2g e;show kc! _=_;rw[e1];exact h _ _ _ _ e2)
theorem LeS.if_(h:LeS f f')(h2:LeS g g'):LeS (fIf t f g) (fIf t f' g'):=qF! (by
 obtain⟨d,s1,e1,e2⟩:=z2g e;show B! (t ρ s) _=_;rw[e1];cases d with
 | true=>exact h _ _ _ _ e2 | false=>exact h2 _ _ _ _ e2)
theorem LeM.ok(h:LeM M N) (e:M ds s=cg! d):N ds s=cg! d:=h ds s d s' e
end Dd
namespace Dd
open L2
open PySem.W
def kev{α:bL!}(n:Nat)(lt:Nat->k5!):KasT α->bm! α
 | .ret a=>b! a | .ask i j k=>ij! (i<n/\j<n) (d3! n (k (lt i j)))
theorem zee{α:bL!}{n:Nat}{lt:Nat->k5!}{ec:Nat->Nat->(cb!->ev!)->ev!}{Q:α->ev!}{s:Shared}(hc:∀i j C,i<n->j<n->C (lt i j) s->ec i j C s): ∀(t:KasT α)(a:α),d3! n t=b! a->Q a s->t.kasWp ec Q s
 | .ret a,b,e,h=>by
  simp only[kev,_y]at e;subst e;exact h | .ask i j k,b,e,h=>by
  unfold kev at e;split at e
  ·rename_i aJ;exact hc i j _ aJ.1 aJ.2 (zee hc (k (lt i j)) b e h)
  ·cases e
noncomputable def lexLt(p q:Int×Int):Bool:=ai! p.1 q.1 (ai! p.2 q.2 r! (ey! p.2 q.2)) (ey! p.1 q.1)
def zef(h:Heap)(v:Value)(p:Int×Int):g!:=∃a o n t u,v=ac!/\cG! a/\gd!=dC!/\ib!=.seq #[b7! p.1,bx! p.2 u] n
inductive wm (h:Heap):bU!->mU!->g! | nil:wm h [] [] | cons {v p vs ps}:zef h v p->wm h vs ps->wm h (v::vs) (p::ps)
theorem wm.length{h:Heap}:∀{vs ps},wm h vs ps->mu!:=λr=>by induction r with
 | nil=>rfl | cons _ _ ih=>exact _at (· + 1) ih
theorem wm.at_{h:Heap}:∀{vs ps},wm h vs ps->∀i,i<a5!->zef h (vs.getD i X!) (gp! (0,0)):=λr=>by induction r with
 | nil=>exact eP! (bS! hi (Nat.not_lt_zero i)) | cons p _ ih=>
  intro i hi;cases i with
  | zero=>exact p | succ i=>exact ih i (_b7 hi)
theorem wm.mono{h h':Heap}(k:bG! (cG! b->dw! b)):∀{vs ps},wm h vs ps->wm h' vs ps:=λr=>by induction r with
 | nil=>exact cu! | cons p _ ih=>
  refine eI! ?_ ih;obtain⟨a,o,n,t,u,e,g,q⟩:=p;exact⟨a,o,n,t,u,e,k _ _ g,q⟩
theorem wm.tups{h:Heap}:∀{vs ps},wm h vs ps->∃fs,KatTups h vs fs/\fs.length=a5!/\∀v∈fs,∃i t,v=b7! i:=λr=>by induction r with
 | nil=>exact fg! [] KatTups.nil (λv hv=>nomatch hv) | cons p _ ih=>
  obtain⟨a,o,n,t,u,rfl,g,c,d⟩:=p;obtain⟨fs,k,l,m⟩:=ih;exact⟨_,KatTups.cons g c d rfl k,_at (· + 1) l,_cp.mpr ⟨b5! _,m⟩⟩
section
variable {prog:Program}{w:World}{A:Around}{E:bX!}{s:Shared}
theorem zmr{v u:Value}{p q:Int×Int}{C:cb!->ev!}(hv:zef F! v p)(hu:zef F! u q)(h:C (oh! p q) s):cB! w A (keyLt' lR! v u) C E s:=by
 obtain⟨a,o,n,t,t',rfl,g,c,d⟩:=hv;obtain⟨b,o',n',x,x',rfl,g',c',d'⟩:=hu;refine kat_lt g d g' d' (kat_cons (_cc (kat_go (λe=>kat_yes (kat_cons (_cc (kat_go (λe2=>kat_yes (kat_nil ?_)) λe2=>kat_no ?_)))) λe=>kat_no ?_)))
 ·have e1:p.1=q.1:=by simpa using e
  have e3:p.2=q.2:=by simpa using e2
  simpa[lexLt,e1,e3] using h
 ·have e1:p.1=q.1:=by simpa using e
  have e3:¬ p.2=q.2:=by simpa using e2
  refine kat_one _ _ (PyProof.Rows.lt_int ?_);show C _ s;simpa[lexLt,e1,e3] using h
 ·have e1:¬ p.1=q.1:=by simpa using e
  have hb:(c!&&(dX! 0==0))=c!:=rfl;rw[hb];refine oneLt_int ?_;simpa[lexLt,e1] using h
theorem zeS{vs:bU!}{ps:mU!}{Q:SortKind->ev!}(hp:wm F! vs ps)(h0:0<a5!)(h:Q lR! s):cB! w A (keyKind' eM!) Q E s:=by
 obtain⟨fs,k,l,m⟩:=hp.tups;refine kat_kind (T:=ar! eo!) k (by rw[l];exact h0) (λv hv=>?_) rfl h;obtain⟨i,t,rfl⟩:=m v hv;exact Looks.of_pure rfl
noncomputable def z7u(vs:bU!)(p:fA!):cz!:=List.toArray (j9! (vs.getD i Value.none))
theorem zbN{a:Addr} {vs:bU!} {ps:mU!} {n:Nat} {p:fA!} {P:PySem.Fin->ev!} (ho:fU! a (ms! n)) (hp:∀h',(bG! (b≠a->dm! b->dw! b))->wm h' vs ps) (h2:2<=dy!) (fJ:dy!<64) (he:ro! (λi j=>oh! (gp! (0,0)) (oS! (0,0))) rL!=b! p) (h:P (.done (.ret X!)) {s with heap:=sortedHeap F! a vs (z7u vs p)}):cB! w A (Builtin.«list.sort» (dG! [ac!])) P E s:=by
 have ha:a<at!:=_r ho;have ai:dy!<=aW!:=by rw[sizeLine_eq];lia
 have bK:mu!:=q! (hp F! λ_ _ _ e=>e);obtain⟨e1,g1⟩:∃e1,e6! (lJ! a (bf! (#[]:cz!))) a (kN! #[] e1):=c0! (get?_update_seq ho (bf! #[]));have g2:e6! (c7! (c7! (lJ! a (bf! (#[]:cz!))) (oQ! 0)) (kN! #[] 0)) a (kN! #[] e1):=_g _ (_g _ g1);have ed:wm (c7! (c7! (lJ! a (bf! (#[]:cz!))) (oQ! 0)) (kN! #[] 0)) vs ps:=hp _ (kA! (_g _ (_g _ (a4! ((_bM F! a (sK! (bf! (#[]:cz!)))).2 b hb) e))));rw[list_sort_plain];refine _a (listItems_at ho rfl (_a (_cm ho rfl (_a (_c6 g1 rfl (_a (_cO (_a (_dl (_aT ?_) g1!)) ai)))) (by rw[_s];exact ai) g1!)));have bQ:¬ vs.toArray.size<2:=by rw[_s];lia
 dsimp only;rw[_q bQ,_q bQ];refine _a (zeS (s:={s with heap:=c7! (c7! (lJ! a (bf! (#[]:cz!))) (oQ! 0)) (kN! #[] 0)}) ed (by lia) ?_);refine _a (_Z (kat_run (ks:=vs) (vs:=vs) (G:=λq s'=>q=p/\s'={s with heap:=c7! (c7! (lJ! a (bf! (#[]:cz!))) (oQ! 0)) (kN! #[] 0)}) (Q:=λay s'=>∃q:Array Nat,q.size=dy!/\pi! ay=q.map (qG! j6!)/\sF!=a!/\q=p/\s'={s with heap:=c7! (c7! (lJ! a (bf! (#[]:cz!))) (oQ! 0)) (kN! #[] 0)}) rfl h2 fJ (λq ay s' a1 a2 a3 a4=>⟨q,a1,a2,a3,a4⟩) (zee (n:=ps.length) (λi j C hi hj hC=>?_) _ p (by rw[bK];exact he) (co! rfl))) ?_ λ_ _ z=>z);·exact zmr (ed.at_ i hi) (ed.at_ j hj) hC
 rintro⟨⟨⟩,ay⟩ s' ⟨q,hq,iB,hf,rfl,rfl⟩;dsimp only;have fK:=kat_snds (ks:=vs) (vs:=vs) rfl iB;rw[fK,hf];refine _a (_c6 g2 rfl (_a (_cm g2 rfl ?_ g1! (by rw[_s,_z,_aY,hq];exact _b8 ai))));simp only[_c7,Bool.false_eq_true,_a1];exact _m h
theorem zfG{l:Addr} {vs:bU!} {ps:mU!} {p:fA!} {Q:bX!} (hl:s.heap.IsList l eM!) (hp:wm F! vs ps) (h2:2<=dy!) (fJ:dy!<64) (he:ro! (λi j=>oh! (gp! (0,0)) (oS! (0,0))) rL!=b! p) (h:Q (w! dO!) {s with heap:=sC! vs (z7u vs p)}): cB! w A (pU! lh! [ez!]) Q E s:=by
 have ai:dy!<=aW!:=by rw[sizeLine_eq];lia
 refine Calls.call_function_entry kind_sorted plain_sorted entry_sorted (args_sorted1 _) ?_;unfold Builtin.«sorted»;refine _a (m:=checkCount lh! 1 1 _) (_m (_a (collect_list hl (_a (_dl ?_ (by rw[sizeLine_eq];lia))) (by rw[sizeLine_eq];lia))));have sz:eb! (oJ! (oF! #[] 0) (· ++ eM!))=dO!:=by rw[Heap.size_update,size_push']
 have g:e6! (c7! (oJ! (oF! #[] 0) (· ++ eM!)) (ms! 0)) dO! (ms! 0):=by
  rw[<- sz];exact g2!
 have keep:bG! (dm! b->e6! (c7! (oJ! (oF! #[] 0) (· ++ eM!)) (ms! 0)) b o/\b≠dO!):=λb o q=>by
  have lt:b<at!:=_r q;refine⟨?_,_D (_aW lt)⟩;rw[_b9 _ _ _ (by rw[sz];exact _D (_aW lt)),Heap.get?_update_ne _ _ _ _ (_D lt),_b9 _ _ _ (_D lt)];exact q
 show cB! w _ _ _ _ ({s with heap:=c7! (oJ! (oF! #[] 0) (· ++ eM!)) (ms! 0)});rw[sz];exact _a (_aT (_aw slot_list_sort (b5! g) entry_list_sort (zbN g (λh' k=>hp.mono λb o q=>k b o (keep b o q).2 (keep b o q).1) h2 fJ he (aC! _ (_m (bM! rfl h)))) (args_list_sort _)))
end
section
variable {X:Cx}{E:XK}
def z44:v!->bm! mU!
 | []=>b! [] | .tup [.int a,.int b]::r=>(z44 r).map λt=>(a,b)::t | _=>none
def zlW(K:W.Frag):aG!->Hp->eA!:=λxs H Q=>∃(l:Addr)(ys:List V)(ps:List (Int×Int))(p:Array Nat),xs=[ez!]/\SqL K H l ys/\c6!=a5!/\2<=c6!/\c6!<64/\ (∀i,i<a5!->∃a,aj! ys ac!/\eG! K a (bW! (gp! (0,0)).1 (gp! (0,0)).2))/\ ro! (λi j=>oh! (gp! (0,0)) (oS! (0,0))) rL!=b! p/\(∀i∈p.toList,i<c6!)/\rY! c6!/\∀r,H r=a!->Q (w! r) (hS! r (ad! (j9! (rs! i))))
theorem zdp{ae:de!}{O:L2.St}{H:Hp}{s:Shared}(I:K!):∀{ys:List V}{af:List Value}{ps:List (Int×Int)},xl ys af->c6!=a5!-> (∀i,i<a5!->∃a,aj! ys ac!/\eG! X.K a (bW! (gp! (0,0)).1 (gp! (0,0)).2))->wm F! af ps
 | [],_,[],.nil,_,_=>cu! | [],_,_::_,_,l,_=>by simp at l | _::_,_,[],_,l,_=>by simp at l | y::ys,_,q::ps,.cons r rs,l,h=>by
  refine eI! ?_ (zdp I rs (by simpa using l) (eP! (by simpa using h (i+1) (by simpa using hi))));obtain⟨a,e,t⟩:=h 0 (by simp);simp only[_c,_y]at e;subst e;cases r;obtain⟨aP,r',pl,_⟩:=lp! t;obtain⟨o,ho,hc,n,hd⟩:=pl;simp only[List.getD_cons_zero]at r';obtain⟨u,us,rfl⟩:∃u us,aP=u::us:=by cases r';exact b5! _
  cases r' with | cons r1 r2=>
   obtain⟨t1,rfl⟩:=r1;obtain⟨t2,rfl,t3,rfl⟩:=vals1 r2;exact⟨a,o,n,t1,t3,rfl,ho,hc,hd⟩
theorem zgA:∀{ys:List V}{af:List Value},xl ys af->∀i,i<c6!->ww (rs! i) (af.getD i X!):=λr=>by induction r with
 | nil=>exact eP! (bS! hi (Nat.not_lt_zero i)) | cons r _ ih=>
  intro i hi;cases i with
  | zero=>exact r | succ i=>exact ih i (_b7 hi)
theorem z8P{ys:aG!}{af:bU!}(h:xl ys af):∀(p:List Nat),(∀i∈p,i<c6!)->xl (p.map λi=>rs! i) (p.map λi=>af.getD i X!)
 | [],_=>cu! | i::p,hp=>eI! (zgA h i (hp i jP!)) (z8P h p λj hj=>hp j (.tail _ hj))
theorem zaL:jA! X lh! (zlW X.K):=by
 intro ae s O H xs us Q I r h;obtain⟨l,ys,ps,p,rfl,hq,len,h2,fJ,dO,he,hp,au,q⟩:=h;obtain⟨u,rfl,rx⟩:=k0!;cases rx;obtain⟨af,r',pl,hz⟩:=lZ!;have ap:=r'.length;refine zfG (ps:=ps) (p:=p) pl.isList (zdp I r' len dO) (by lia) (by lia) he ?_;obtain⟨c',e⟩:=sortedAll_at F! af (z7u af p);refine⟨w! dO!,_,I.laid (t':=s.toks) (λb o z=>sortedAll_old z) (_c5 _) (show jA aT! X.w _ (sC! af (z7u af p)) _ (ad! (j9! (rs! i))) from⟨?_,_,c',z8P r' p.toList hp,e⟩),rfl,q _ (sa! (_c5 _))⟩;rw[_z,au];exact hz
def z35:v!->bl!
 | [d],s=>match l4! d with
  | some xs=>match z44 xs with
   | some ps=>ab! (2<=x!/\x!<64) (match ro! (λi j=>oh! (gp! (0,0)) (oS! (0,0))) rL! with
     | some p=>ab! (p.toList.all (λi=>ey! i x!)=c!/\rY! x!) (bt! (j9! (xs.getD i aJ!))) | none=>.no) | none=>.no
  | none=>.no
 | _,_=>.no
theorem z63{mg:Gm}{H:Hp}{Y:an!}:∀{xs:List D}{ps:List (Int×Int)}{vs:List V},z44 xs=b! ps->ht!->x!=a5!/\ ∀i,i<a5!->∃a,aj! vs ac!/\eG! nf! a (bW! (gp! (0,0)).1 (gp! (0,0)).2)
 | [],ps,vs,e,h=>by
  simp only[z44,_y]at e;subst e;exact iq! (eP! (by simp at hi)) | x::xs,ps,vs,e,h=>by
  unfold z44 at e;split at e;·simp at *
  ·rename_i a b r z;cases z;cases q:z44 xs with
   | none=>rw[q]at e;simp at e | some t=>
    rw[q]at e;simp only[_ag,_y]at e;subst e;simp only[yj]at h;obtain⟨v,ws,rfl,h1,h2⟩:=h;obtain⟨l,k⟩:=z63 q h2;refine⟨by simp[l],eP! ?_⟩;cases i with
    | zero=>
     obtain⟨c,us,rfl,q1,q2⟩:=kZ (K:=mg.K) h1;obtain⟨v1,v2,rfl,d1,d2⟩:=za1 q2;cases yp d1;cases yp d2;exact aC! c q1 | succ i=>simpa using k i (by simpa using hi)
  ·cases e
theorem zbR{mg:Gm}{H:Hp}{Y:an!}:∀{xs:List D}{vs:List V},ht!->∀i,i<x!->km! (xs.getD i aJ!) (vs.getD i aJ!)
 | [],_,_,i,hi=>by simp at hi | x::xs,vs,h,i,hi=>by
  simp only[yj]at h;obtain⟨v,ws,rfl,h1,h2⟩:=h;cases i with
  | zero=>simpa using h1 | succ i=>simpa using zbR h2 i (by simpa using hi)
theorem z9y{mg:Gm}{H:Hp}{Y:an!}{xs:v!}{vs:aG!}(h:ht!):∀(p:List Nat),(∀i∈p,i<x!)->fZ! H Y (p.map λi=>xs.getD i aJ!) (p.map λi=>vs.getD i aJ!)
 | [],_=>by simp[yj] | i::p,hp=>by
  simp only[_u,yj];exact gR! _ _ (zbR h i (hp i jP!)) (z9y h p λj hj=>hp j (.tail _ hj))
theorem ziH:∃r,jA! X lh! r/\z1P X E r z35:=j7! zaL.freeze (by
 unfold z35 at h;split at h
 ·split at h
  ·rename_i d xs e;split at h
   ·rename_i ps nT;split at h
    ·rename_i h2;split at h
     ·rename_i p ep;split at h
      ·rename_i hp;obtain⟨v,rfl,dn⟩:=ld!;obtain⟨a,ws,rfl,q1,q2⟩:=yn r e dn;obtain⟨l,k⟩:=z63 nT q2;have hl:=q2.length;have cv:∀i∈p.toList,i<x!:=eP! (by simpa using _T.mp hp.1 i hi)
       exact⟨a,ws,ps,p,rfl,y! q1,by lia,by lia,by lia,k,ep,eP! (by have:=cv i hi;lia),by rw[hp.2];lia,z06 r h (z9y q2 _ cv)⟩
      ·exact h.elim
     ·exact h.elim
    ·exact h.elim
   ·exact h.elim
  ·exact h.elim
 ·exact h.elim)
end
end Dd
namespace L2
section
variable {X:Cx}{v1 v2 e:Expr}{t1 t2 te:TE}{k1 k2:Str}{ao ak bH p1 p2:Pos}{j1 j2:Nat}
theorem zhL(hk:k1≠k2)(h1:S! v1 t1)(h2:S! v2 t2)(he:S! e te) (am:A! (lO! (.Dict (h2! (gN! k1 j1 p1) (gN! k2 j2 p2)) [v1,v2] bH) "get" (hc! (.Dict (h2! (gN! k1 j1 p1) (gN! k2 j2 p2)) [v1,v2] bH)) = hc! (.Dict (h2! (gN! k1 j1 p1) (gN! k2 j2 p2)) [v1,v2] bH))) (aH:dg! (hs! (hP! ak [e]) (! x.1)&&hs! (nA! ak []) (iF! x.1) && bw! (q! [e]+q! ([]:gO!)+(np! ([]:gO!) 0 1)<30))) (ai:dg! pS!)(hs:A! (hP! ak [e]=[dQ!])): S! (fw! (mz! (.Dict (h2! (gN! k1 j1 p1) (gN! k2 j2 p2)) [v1,v2] bH) "get") [e] [] ak) (gI! (t1 O H λx1 H1=>t2 O H1 λx2 H2=>te O H2 λy H3=>∃k,y=aI! k/\Q (ai! k k1 x1 (ai! k k2 x2 aJ!)) H3)):=by
 intro ae s O H Q I h;refine _b3 am aH ai hs (wpAny_Dict_walk (knd:=rX! X.w) rfl rfl (by simp) (Nat.le_of_ble_eq_true rfl) ?_);have far:=I.far;have I0:lL! ({s with heap:=id! ({cls:=ka!,data:=lw! #[]})}):=I.kept (t':=s.toks) λb u z=>_g _ z;have fp:∀b∈[at!],zbK X ae H b:=cl! (by
  cases _bk.mp hb;exact I.fpOk al! (mq! _))
 have g0:e6! (id! ({cls:=ka!,data:=lw! #[]})) at! ({cls:=ka!,data:=lw! #[]}):=g2!;have I1:=I0.pinned fp (cl! (by
  cases _bk.mp hb;exact bM! g0 (by intro v z;cases z)))
 have d0:(id! ({cls:=ka!,data:=lw! #[]})).DictOf (rX! X.w) at! []:=Heap.DictOf.new _;refine pairTrees_cons_walk (_cF (thn (h1 _ _ O H _ (I1.tok _) h) λu1 s1 ⟨x1,H1,I2,r1,q1⟩=>?_));refine pairTrees_cons_walk (_cF (thn (h2 _ _ O H1 _ (I2.tok _) q1) λu2 s2 ⟨x2,H2,I3,r2,q2⟩=>pairTrees_nil_walk ?_));have pin:=I3.pin _ (_O _ (_O _ (jI jP! g0)));refine⟨[(k1,u1),(k2,u2)],bn! (strKind_is _ _ _ _) rfl (strKind_is _ _ _ _) lr!,d0.at λo z=>?_,λh' dd sb=>?_⟩
 ·rw[g0]at z;cases z;exact pin.1
 have em:merged ([]:dD! dR!) [(k1,u1),(k2,u2)]=[(k1,u1),(k2,u2)]:=by simp[merged,stored,hk]
 rw[em]at dd;obtain⟨f0,f1,f2,f3,f4,f5⟩:=fp _ jP!;have I4:cI! H2 ({s2 with heap:=h',toks:=s2.toks+2}):=I3.unpinned.turned (it:=s.heap.objs.size) (λb o hb z=>a4! (sb.2 b hb) z) pin.2.1 pin.2.2.1 f3 f4 f5;obtain⟨od,es,ep,ho,hx,hd,_⟩:=dd;have nU:∀b∈[at!],zbK X ae H2 b:=cl! (by
  cases _bk.mp hb;exact⟨pin.2.1,f1,f2,f3,f4,f5⟩)
 have I5:=I4.pinned nU (cl! (by
  cases _bk.mp hb;exact bM! ho (by intro v z;rw[hd]at z;cases z)))
 have dd:h'.DictOf (rX! X.w) at! [(k1,u1),(k2,u2)]:=⟨od,es,ep,ho,hx,hd,by assumption⟩;refine⟨nB!,"dict.get",PySem.F.plainAttrs_dict,PySem.F.slot_dict_get,PySem.F.type_dict_get,Heap.DictOf.typeIs (s:={s2 with heap:=h',toks:=s2.toks+2}) dd,λa z=>?_,?_⟩
 ·cases z;exact aV! od ho hx.2.1
 refine _b4 rfl (_by (_cK (thn (he _ _ O H2 _ I5 q2) λu3 s3 ⟨y,H3,I6,r3,k,ey,q3⟩=>_cZ ?_)));subst ey;obtain⟨t,rfl⟩:=r3;have iC:=I6.pin _ (_O _ (_O _ (jI jP! ho)));have lq:s3.heap.DictOf (rX! X.w) at! [(k1,u1),(k2,u2)]:=dd.at λo z=>by
  have z':dw! at!:=z;rw[ho]at z';cases z';exact iC.1
 refine call_meetsIn PySem.F.slot_dict_get lq.typeIs PySem.F.entry_dict_get (PySem.F.args_dict_get_2 _ _) (meets_dict_get (rX! X.w) at! (strKind_is _ _ k t) far) ⟨_,lq.mapOf,_,H3,I6.unpinned.tok _,?_,q3⟩;by_cases c1:k=k1
 ·subst c1;simpa[valueAt] using r1
 ·by_cases c2:k=k2
  ·subst c2;simpa[valueAt,hk,c1] using r2
  ·have e1:¬ k1=k:=λz=>c1 js!;have e2:¬ k2=k:=λz=>c2 js!;simp only[valueAt,List.find?,e1,e2,c1,c2,_cC,_a1,Option.map_none,_dp];rfl
end
open PySem.Builtin.Str
section
variable {X:Cx}{o e:Expr}{to te:TE}{ao ak pos:Pos}
theorem zjf(ho:S! o to)(am:A! (lO! o "upper" gw!=gw!))(ai:dg! pS!): S! (fw! (mz! o "upper") [] [] ak) (gI! (to O H (hG! (∃z,x=aI! z/\tooLong (q! (Txt.upper z))=r!/\Q (aI! (Txt.upper z)) H1)))):=by
 intro ae s O H Q I h;refine Call_method0 am ai (thn (ho ae s O H _ I h) λv s1 ⟨x,H1,I1,r1,z,ez,hz,q⟩=>?_);subst ez;obtain⟨t,rfl⟩:=r1;exact SB.upper hz ⟨aI! (Txt.upper z),H1,I1.tok _,co! _,q⟩
def zv8:V->dd!->dd!->Hp->eA!:=ql! (∃z i,x=aI! z/\lo=h0!/\hi=a!/\pj!<=aW!/\Q (aI! (ri! z h0!)) H)
theorem zqU:SlR X zv8:=by
 intro ae s O H x v vl vu lo hi sl Q I rx hs pl pu h;obtain⟨z,i,rfl,rfl,rfl,hz,q⟩:=h;obtain⟨t,rfl⟩:=rx;obtain⟨ob,ho,hc,hd⟩:=hs;cases pl with | int i ti=> cases pu with | none=>
   refine⟨gc!,_,PySem.F.slot_str_getitem.lookup,typeIs_str _ _ _,wpAny_getItem_str_slice (l:=b! (i,ti)) (u:=none) (st:=none) (ck! ob ho hc hd) rfl (post_val_or_str ⟨_H (Txt.slice_le z _ _) hz,λt' k=>?_⟩)⟩;exact⟨aI! (ri! z h0!),H,it!,co! _,q⟩
end
end L2
namespace Dd
open L2 PySem.Builtin.Str
section
variable {X:Cx}{E:XK}{o e v1 v2:Expr}{ao ak bH p1 p2 pos:Pos}{k1 k2:Str}{j1 j2:Nat}
theorem zd2{mg:Gm}{H:Hp}{Y:an!}{z:Str}:km! (aI! z) (aI! z):=by rfl
noncomputable def zlz(f:FE):FE:=eO! (d5! (match d with
 | .str z=>ab! (tooLong (q! (Txt.upper z))=r!) (M! (aI! (Txt.upper z))) | _=>.no))
theorem zm7{f:FE}(ho:V! o f)(am:A! (lO! o "upper" gw!=gw!))(ai:dg! pS!): V! (fw! (mz! o "upper") [] [] ak) (zlz f):=yk (zjf ho am ai) λO H Q ⟨Y,ρ,s,r,en,h⟩=>by
 refine yJ (k:=kD! (match d with | .str z=>ab! (tooLong (q! (Txt.upper z))=r!) (ep! (D.str (Txt.upper z)) s1) | _=>.no)) r en h _ λv H1 Y1 s1 d r1 av dn stp h1=>?_;cases d with
 | str z=>
  cases z08 dn;simp only at h1;split at h1
  ·rename_i hz;exact mE! z hz (rx! zd2)
  ·exact h1.elim | _=>exact h1.elim
noncomputable def zuy(f:FE)(fl:FO):FE:=eO! (d5! (B! (fl ρ s1) (λlo s2=>match d,lo with
 | .str z,some i=>ab! (pj!<=cap) (bD! (aI! (ri! z h0!))) | _,_=>.no)))
theorem ziS{lo:r1!}{p2:Pos}{fe:FE}{fl:FO}(he:fp! fe)(hl:RO X E lo fl):V! (mw! e (.Slice lo a! a! p2)) (zuy fe fl):= yk (zdJ zqU he hl zgC) λO H Q ⟨Y,ρ,s,r,en,h⟩=>by
  refine yJ (k:=kD! (B! (fl ρ s1) (λlo s2=>match d,lo with | .str z,some i=>ab! (pj!<=cap) (ep! (D.str (ri! z h0!)) s2) | _,_=>.no))) r en h _ λv H1 Y1 s1 d r1 av dn stp h1=>?_;refine zcK (k:=fun ρ lo s2=>match d,lo with | .str z,some i=>ab! (pj!<=cap) (ep! (D.str (ri! z h0!)) s2) | _,_=>.no) r1 av h1 _ λlo H2 Y2 s2 r2 aX ag h2=>?_;cases d with
  | str z=>
   cases z08 dn;cases lo with
   | none=>exact h2.elim | some i=>
    simp only at h2;split at h2
    ·rename_i hz;exact⟨z,i,rfl,rfl,rfl,kO hz,h2.here r2 zd2⟩
    ·exact h2.elim
  | _=>cases lo<;>exact h2.elim
def zkf:D->D->bl!
 | .str a,.str b,s=>ab! (a.length+n9!<=cap) (j! (aI! (a++b))) | _,_,_=>.no
theorem zkG:∃r,gv! .Add r/\cS! zkf:=by
 refine bM! zeG ?_;intro H Y s d1 d2 v1 v2 Q r h1 h2 h;unfold zkf at h;split at h
 ·rename_i a b;cases z08 h1;cases z08 h2;split at h
  ·rename_i hl;exact⟨a,b,rfl,rfl,kO hl,eX! zd2⟩
  ·exact h.elim
 ·exact h.elim
noncomputable def zfN(k1 k2:Str)(f1 f2 fe:FE):FE:=b0! (f1 ρ s) (λx1 s1=>B! (f2 ρ s1) (λx2 s2=>B! (fe ρ s2) (λy s3=>match y with
 | .str k=>.ok (ai! k k1 x1 (ai! k k2 x2 aJ!)) s3 | _=>.no)))
theorem zq6{f1 f2 fe:FE}(hk:k1≠k2)(h1:V! v1 f1)(h2:V! v2 f2)(he:fp! fe) (am:A! (lO! (.Dict (h2! (gN! k1 j1 p1) (gN! k2 j2 p2)) [v1,v2] bH) "get" (hc! (.Dict (h2! (gN! k1 j1 p1) (gN! k2 j2 p2)) [v1,v2] bH)) = hc! (.Dict (h2! (gN! k1 j1 p1) (gN! k2 j2 p2)) [v1,v2] bH))) (aH:dg! (hs! (hP! ak [e]) (! x.1)&&hs! (nA! ak []) (iF! x.1) && bw! (q! [e]+q! ([]:gO!)+(np! ([]:gO!) 0 1)<30))) (ai:dg! pS!)(hs:A! (hP! ak [e]=[dQ!])): V! (fw! (mz! (.Dict (h2! (gN! k1 j1 p1) (gN! k2 j2 p2)) [v1,v2] bH) "get") [e] [] ak) (zfN k1 k2 f1 f2 fe):= yk (zhL hk h1 h2 he am aH ai hs) λO H Q ⟨Y,ρ,s,r,en,h⟩=>by
  refine yJ (k:=fun ρ x1 s1=>B! (f2 ρ s1) (λx2 s2=>B! (fe ρ s2) (λy s3=>match y with | .str k=>ep! (ai! k k1 x1 (ai! k k2 x2 D.non)) s3 | _=>.no))) r en h _ λu1 H1 Y1 s1 x1 r1 av d1 nP h1=>?_;refine yJ (k:=fun ρ x2 s2=>B! (fe ρ s2) (λy s3=>match y with | .str k=>ep! (ai! k k1 x1 (ai! k k2 x2 D.non)) s3 | _=>.no)) r1 av h1 _ λu2 H2 Y2 s2 x2 r2 aX d2 bj h2=>?_;refine yJ (k:=fun ρ y s3=>match y with | .str k=>ep! (ai! k k1 x1 (ai! k k2 x2 D.non)) s3 | _=>.no) r2 aX h2 _ λu3 H3 Y3 s3 y r3 mU d3 cD h3=>?_;cases y with
  | str k=>
   cases z08 d3;refine aC! k (h3.here r3 ?_);split;·exact (d1.mono bj).mono cD
   ·split;·exact d2.mono cD
    ·rfl | _=>exact h3.elim
end
end Dd
namespace Dd
open L2
section
variable {X:Cx}{E:XK}{e a b c tg iter az:Expr}{es:aE!}{pos:Pos}{CX:CXT}
variable {scope:Scope}{aC:aE!}{fi:FI}{fg:FG}{ft:FT}{fe:FE}{g:TG}{aF py:Pos}
theorem zel(N':aq!)(mp:eY!)(hc:b2!)(hi:RI X E tg ic! fi)(hg:lY! ct! tg g)(cq:z7y J! E mp g fg)(ht:lU! ct! aC (tT J! E ft))(he:pV! ct! az fe) (aV:A! ke!)(aR:dg! (zfS lt!))(aI:dg! sw!)(aW:dg! (kv! N' mp)) (hs:lc! (k4! x=lb!)):V! (f5! [gz! 0]) (z1f fi mp fg ft fe):= yk (zgL (te:=tE J! E fe) N' mp hc hi hg ht (λex s H=>he ex s H) aV (z5l aR) (z56 aI) aW hs) λO H Q ⟨Y,ρ,s,r,en,h⟩=>by
  refine z5u cq r en h λH1 Y1 s1 xs vs r1 av dn h1 bI=>?_;split at h1
  ·rename_i hf;exact zfB r1 h1 hf dn
  ·exact h1.elim
end
section
variable {X:Cx}{E:XK}{es:aE!}{fa:FE}{fr:FA}
theorem aN(ha:f0! (fC! p))(hr:RA X E es fr):RA X E ((fC! p)::es) (zb fa fr):=qO ha hr (zr ..)
theorem aK(ha:f0! (lX! c p))(hr:RA X E es fr):RA X E ((lX! c p)::es) (zb fa fr):=qO ha hr (z8z ..)
theorem aQ(ha:f0! (fw! g xs ks p))(hr:RA X E es fr):RA X E ((fw! g xs ks p)::es) (zb fa fr):=qO ha hr (xJ ..)
theorem aT(ha:f0! (hH! xs k p))(hr:RA X E es fr):RA X E ((hH! xs k p)::es) (zb fa fr):=qO ha hr (zdC ..)
theorem aS(ha:f0! (rz! b p))(hr:RA X E es fr):RA X E ((rz! b p)::es) (zb fa fr):=qO ha hr (z10 ..)
theorem aB(ha:f0! (.BinOp a o b p))(hr:RA X E es fr):RA X E ((.BinOp a o b p)::es) (zb fa fr):=qO ha hr (zje ..)
theorem aL(ha:f0! (.List xs p))(hr:RA X E es fr):RA X E ((.List xs p)::es) (zb fa fr):=qO ha hr (zjU ..)
theorem aO{a:Expr}{g:d9! Comprehension}{sc:Scope}{p:Pos}(ha:f0! (.ListComp a g sc p))(hr:RA X E es fr):RA X E ((.ListComp a g sc p)::es) (zb fa fr):=qO ha hr (zH ..)
theorem aM(ha:f0! (.Compare a o b p))(hr:RA X E es fr):RA X E ((.Compare a o b p)::es) (zb fa fr):=qO ha hr (z54 ..)
theorem aU(ha:f0! (.UnaryOp o a p))(hr:RA X E es fr):RA X E ((.UnaryOp o a p)::es) (zb fa fr):=qO ha hr (zno ..)
theorem zum{pos:Pos} {p:Pos} (F:Has aT! X.w X.K fu! fb! CX x n M) (hr:hE! X.A) (hx:kW! X E) (ha:RA X E (e::es) f) (hk:j5! (n<=k)) (hg:A! e7!) (aG:ce! (x==cH!)) (he:A! (aw! (e::es)=dQ!::iw!)) (au:d4! es (·.1)):V! (dl! x p (e::es)) (ze M f):=zqN F (hr.mono hk) hx hg ha aG he au
end
section
variable {q:Ask}{w:World}{K:W.Frag}{h:Heap}{mg:Str->aS!}
theorem zlf(X:hr!)(G:oA! mg)(e:zdD q K=jb! q)(i:Nat) {st:Stmt}(hx:aj! q.fs (x,st)):∃f fd,fn! x fj!/\Fun K x x st f fd:=let ⟨f,fd,a,F⟩:=zto e x st (_w hx);⟨f,fd,W.mg_of X G a,F⟩
theorem ux(X:hr!)(G:oA! mg)(e:zdD q K=jb! q)(i:Nat) (hx:aj! q.bs x):hx! x:=W.mg_none_of X G (zs0 e x (_w hx))
theorem zkX(X:hr!)(G:oA! mg)(e:zdD q K=jb! q)(i:Nat) (hx:aj! q.cs (x,c)):∃t,fn! x (b7! c):=let ⟨t,z⟩:=ztB e x c (_w hx);⟨t,W.mg_of X G z⟩
end
theorem us0{P:bU!->g!}(h:P []):∀us:List Value,iD!=0->P us | [],_=>h
theorem usS{P:bU!->g!}{n:Nat}(h:∀a us,iD!=n->P (a::us)):∀us:List Value,iD!=n+1->P us | a::us,e=>h a us (Nat.succ.inj e)
theorem us1{P:bU!->g!}(h:∀a,P [a]):∀us:List Value,iD!=1->P us:=usS λa=>us0 (h a)
theorem us2{P:bU!->g!}(h:∀a b,P [a,b]):∀us:List Value,iD!=2->P us:=usS λa=>us1 (h a)
theorem us3{P:bU!->g!}(h:∀a b c,P [a,b,c]):∀us:List Value,iD!=3->P us:=usS λa=>us2 (h a)
def Fq(K:W.Frag)(mg:Str->aS!)(x:Str)(st:Stmt):g!:=∃f fd,fn! x fj!/\Fun K x x st f fd
class Hs (P:Program)(w:World)(K:W.Frag)(mg:Str->aS!)(base:Heap)(CX:CXT)(x:Str)(n:outParam Nat)(M:outParam Mir):g! where h:Has P w K mg O! CX x n M
structure Rm(P:Program)(w:World)(K:W.Frag)(mg:Str->aS!)(base:Heap)(k:Nat)(A:Around):g! where r:hE! A
section
variable {P:Program}{w:World}{K:W.Frag}{mg:Str->aS!}{base:Heap}{k n:Nat}{A:Around}
theorem Rm.units(h:Rm P w K mg O! k A):o8!+64<nc!:=h.r.units
theorem Rm.mono(h:Rm P w K mg O! k A)(l:n<=k):z1U n A:=h.r.mono l
theorem Rm.has(_:Rm P w K mg O! k A)(x:Str){M:Mir}[F:af! x n M]:Has P w K mg O! CX0 x n M:=F.h
theorem r_k{pos:Pos} {p:Pos} (hr:Rm P w K mg O! k A) (ha:RA X E0 (e::es) f) [F:af! x n M] (q:A! ((X.A,aT!,X.w,X.K,fu!,fb!)=(A,P,w,K,mg,O!))) (hk:n<=k:=by first | decide | omega) (hg:A! e7!) (aG:ce! (x==cH!)) (he:A! (aw! (e::es)=dQ!::iw!)) (au:d4! es (·.1)) : RE X E0 (dl! x p (e::es)) (ze M f):=by cases q;exact zum F.h hr.r zjC ha hk hg aG he au
theorem Hs.tidy(h:gk! P w K mg CX x n M):gk! P w K mg CX x n (z4X M):=⟨h.h.tidy⟩
theorem yx{st:Stmt} (q:Fq K mg x st)(S:R! N ps st) (body:∀{f:Addr}{aj:Value}{A:Around}{outer:List Env}{s:Shared}{H:Hp}{E:XK},Rm P w K mg O! k (kf! x c2! f aj)->(z4M CX0 P w K mg O! N x c2! f aj A au! s H E).nox.calm=c!-> RSs (z4M CX0 P w K mg O! N x c2! f aj A au! s H E).nox E0 h6! fs) (hb:rH! (iD!=a5!) (qi! (W.fnOf x x (jp st) h6! c2! X! kV aE pm an aj ct) (dG! us)=dS! l0!))(hn:A! (a5!=n)):af! x (k+1) (Mof N n fs):= let ⟨_,_,hm,F⟩:=q;⟨zq8 F hm (F.binds hb) S hn λ_ _ _ _ _ _ hr hc=>body ⟨hr⟩ hc⟩
theorem zpG{st:Stmt}{ps:aq!}(q:Fq K mg x st) (hb:rH! (iD!=a5!) (qi! (W.fnOf x x (jp st) h6! c2! X! kV aE pm an aj ct) (dG! us)=dS! l0!))(n:Nat):af! x n (λ_ _=>.no):= let ⟨_,_,hm,F⟩:=q;⟨(zqs F hm (F.binds hb)).mono g1!⟩
end
class HsH (P:Program)(w:World)(K:W.Frag)(mg:Str->aS!)(base:Heap)(CX:CXT)(x:Str)(n:outParam Nat)(M:outParam Mir):g! where h:zr3 P w K mg O! CX x n M
section
variable {P:Program}{w:World}{K:W.Frag}{mg:Str->aS!}{base:Heap}{k n:Nat}{A:Around}
theorem Rm.hasX(_:Rm P w K mg O! k A)(x:Str){M:Mir}[F:gk! P w K mg dM! x n M]:Has P w K mg O! dM! x n M:=F.h
theorem Rm.hasH(_:Rm P w K mg O! k A)(x:Str){M:Mir}[F:HsH P w K mg O! CX0 x n M]:zr3 P w K mg O! CX0 x n M:=F.h
theorem z7N{X:Cx} {E:XK} {CX:CXT} {es:aE!} {e:Expr} {pos:Pos} {x:Str} {p:Pos} {M:Mir} {f:FA} (hr:Rm P w K mg O! k A) (hx:kW! X E) (ha:RA X E (e::es) f) [F:gk! P w K mg CX x n M] (q:A! ((X.A,aT!,X.w,X.K,fu!,fb!)=(A,P,w,K,mg,O!))) (hk:n<=k:=by first | decide | omega) (hg:A! e7!) (aG:ce! (x==cH!)) (he:A! (aw! (e::es)=dQ!::iw!)) (au:d4! es (·.1)):V! (dl! x p (e::es)) (ze M f):=by cases q;exact zum F.h hr.r hx ha hk hg aG he au
theorem qB{x:Str}{st:Stmt}{N ps:aq!}{k n:Nat}{fs:FS}(q:Fq K mg x st)(S:R! N ps st) (body:∀{f:Addr}{aj:Value}{A:Around}{outer:List Env}{s:Shared}{H:Hp}{E:XK},Rm P w K mg O! k (kf! x c2! f aj)->(z4M dM! P w K mg O! N x c2! f aj A au! s H E).calm=c!-> RSs (z4M dM! P w K mg O! N x c2! f aj A au! s H E) E h6! fs) (hb:rH! (iD!=a5!) (qi! (W.fnOf x x (jp st) h6! c2! X! kV aE pm an aj ct) (dG! us)=dS! l0!))(hn:A! (a5!=n)):gk! P w K mg dM! x (k+1) (kX N n fs):= let ⟨_,_,hm,F⟩:=q;⟨zmo F hm (F.binds hb) S hn λ_ _ _ _ _ _ hr hc=>body ⟨hr⟩ hc⟩
theorem zov{x:Str}{st:Stmt}{N ps:aq!}{k n:Nat}{fs:FS}(q:Fq K mg x st)(S:R! N ps st) (body:∀{f:Addr}{aj:Value}{A:Around}{outer:List Env}{s:Shared}{H:Hp}{E:XK},jr k (kf! x c2! f aj)-> RSs (z4M CX0 P w K mg O! N x c2! f aj A au! s H E).nox E0 h6! fs) (hb:rH! (iD!=a5!) (qi! (W.fnOf x x (jp st) h6! c2! X! kV aE pm an aj ct) (dG! us)=dS! l0!))(hn:A! (a5!=n)):HsH P w K mg O! CX0 x (k+1) (Mof N n fs):= let ⟨_,_,hm,F⟩:=q;⟨zmX F hm (F.binds hb) S hn λ_ _ _ _ _ _ hr=>body hr⟩
end
open PySem.W
end Dd
namespace Dd
open L2
section
variable {X:Cx}{E:XK}{e:Expr}{pos cC:Pos}
noncomputable def zu1(i:Nat)(f:FE):FS:=eO! (match ρ[i]? with
 | some (some (.int a))=>d5! (match d with | .int b=>g0! (i1! (e! (a+b))) | _=>.no)
 | _=>.no)
@[simp] theorem zug(h:aj! ρ (e! a))(hf:aM!=M! e0!):zu1 i f ρ s=g0! (i1! (e! (a+b))):=by simp only[zu1,h,hf,Rb]
end
open PySem.W
end Dd
namespace Dd
open L2
noncomputable def zlS:v!->bm! i!
 | []=>b! [] | .int i::r=>(zlS r).map (i::·) | _=>none
noncomputable def zqO:D->bm! i!
 | .tup ds=>zlS ds | _=>none
noncomputable def zbZ:v!->bm! ff!
 | []=>b! [] | d::ds=>match zqO d,zbZ ds with | some n,some ns=>b! (n::ns) | _,_=>none
theorem zdA:∀ns:List Int,zlS il!=b! ns
 | []=>rfl | i::r=>by simp[zlS,zdA r]
theorem zhr:∀{ds:List D}{ns:List Int},zlS ds=b! ns->ds=il!
 | [],_,e=>by simp[zlS]at e;subst e;rfl | d::r,ns,e=>by cases d with
  | int i=>
   simp only[zlS,_ai]at e;obtain⟨a,h1,rfl⟩:=e;rw[zhr h1];rfl | _=>simp[zlS]at e
theorem zix(ns:i!):zqO (p! il!)=b! ns:=zdA ns
theorem znG(e:zqO d=b! ns):d=p! il!:=by cases d with
 | tup ds=>rw[zhr e] | _=>simp[zqO]at e
theorem zbw:∀L:List (List Int),zbZ (oi! (λns=>p! il!))=b! L
 | []=>rfl | n::L=>by simp only[_u,zbZ,zix,zbw L]
def AtN(H:Hp)(v:V)(ns:i!):g!:=∃b,v=w! b/\cR! (p! hQ!)
theorem zke(h:zqO d=b! ns)(dn:fI!):AtN H v ns:=by
 rw[znG h]at dn;obtain⟨a,vs,rfl,e,dd⟩:=dn;rw[(show ∀{ns:List Int}{vs:List V},pP! il!->vs=hQ! from by
  intro ns;induction ns with
  | nil=>exact id | cons i r ih=>
   intro vs h;obtain⟨v,r',rfl,h1,h2⟩:=h;rw[yp h1,ih h2];rfl) dd]at e;exact aC! a e
theorem zbQ: ∀{ds:List D}{vs:List V}{L:List (List Int)},zbZ ds=b! L->ja!->p3! (λv ns=>AtN H v ns) vs L
 | [],_,_,h,dn=>by simp only[zbZ,_y]at h;subst dn;subst h;exact cu! | d::ds,_,_,h,dn=>by
  obtain⟨v,vs,rfl,h1,h2⟩:=dn;simp only[zbZ]at h;split at h
  ·rename_i n ns e1 e2;cases h;exact eI! (zke e1 h1) (zbQ e2 h2)
  ·cases h
end Dd
namespace Dd
open L2
noncomputable def lexN:i!->eC! i!
 | [],[]=>false | [],_::_=>true | _::_,[]=>false | x::a,y::b=>ai! x y (gK! a b) (ey! x y)
inductive kI:bU!->i!->g! | nil:kI [] [] | cons {i t vs ns}:kI vs ns->kI (b7! i::vs) (i::ns)
theorem kI.of_vals:∀{ns:List Int}{us:List Value},kl! hQ!->kI us ns:=λ{ns}=>by induction ns with
 | nil=>intro us r;cases r;exact cu! | cons x ns ih=>
  intro us r;cases r with | cons q r=>obtain⟨_,rfl⟩:=q;exact .cons (ih r)
theorem kI.length:∀{us ns},kI us ns->iD!=eN!:=λr=>by induction r with
 | nil=>rfl | cons _ ih=>exact _at (· + 1) ih
end Dd
namespace Dd
open L2
section
variable {X:Cx}{E:XK}
theorem AtN.tuple{O:L2.St} (I:K!) (a:AtN H v ns)(r:ww v u):∃b af,v=w! b/\u=w! b/\s.heap.IsTuple b af/\kI o1! ns:=by
 obtain⟨b,rfl,e⟩:=a;cases (show u=lj! b from r);obtain⟨af,r,pl,hz⟩:=lp! (y! (y! e));exact⟨b,fs!,rfl,rfl,pl,kI.of_vals (by exact r)⟩
end
end Dd
namespace L2
noncomputable def n3(a b c:Int):Nat:=am! (a<b) (fc! ((b-a-1) / c+1)) 0
end L2
namespace Dd
open L2
open PySem.W
theorem kj{α β:bL!}{n:Nat}{lt:Nat->k5!}(f:α->KasT β):∀t:KasT α,d3! n (t.bind f)=B! (d3! n t) (λa=>d3! n (f a))
 | .ret a=>rfl | .ask i j k=>by
  show (ij! (i<n/\j<n) (d3! n (B! (k (lt i j)) f)))=B! (ij! (i<n/\j<n) (d3! n (k (lt i j)))) _;split;·exact kj f _
  ·rfl
section
variable {N:Nat}{lt:Nat->k5!}(aD:∀i j,i<N->j<N->i≠j->lt j i=! lt i j)(tr:∀i j k,di! i j->di! j k->di! i k)
noncomputable abbrev at0(p:fA!)(i:Nat):Nat:=p.getD i 0
structure PmN(N:Nat)(p:fA!):g! where pm:qH! (mb! N)
theorem PmN.size{p:fA!}(h:PmN N p):oj!=N:=by have:=h.pm.length_eq;simpa using this
theorem PmN.bd{p:fA!}(h:PmN N p){i:Nat}(hi:i<N):ay! i<N:=by
 have hs:=h.size;have:ay! i∈p.toList:=by
  rw[at0,Array.getD,qA! (by lia)];exact Array.getElem_mem_toList _
 exact _aN.mp (h.pm.mem_iff.mp iP!)
theorem PmN.ne{p:fA!} (h:PmN N p) {i j:Nat} (hi:i<N) (hj:j<N) (aJ:i≠j):ay! i≠ay! j:=λz=>by
 have hs:=h.size;have nd:p.toList.Nodup:=h.pm.nodup_iff.mpr List.nodup_range;rw[at0,at0,Array.getD,Array.getD,qA! (by lia),qA! (by lia)]at z;have:=(_a0 (i:=i) (j:=j) (h₀:=by simpa using (by lia:i<oj!)) (h₁:=by simpa using (by lia:j<oj!)) nd).mp (by simpa using z);exact aJ iP!
theorem PmN.of{p q:fA!}(h:PmN N p)(e:q.Perm p):PmN N q:=⟨a4! (Array.perm_iff_toList_perm.mp e) h.pm⟩
def Asc(lt:Nat->k5!)(p:fA!)(k:Nat):g!:=∀i j,i<j->j<k->di! (ay! i) (ay! j)
def Des(lt:Nat->k5!)(p:fA!)(k:Nat):g!:=∀i j,i<j->j<k->di! (ay! j) (ay! i)
include tr
theorem Asc.more{p:fA!}{k:Nat}(h:Asc lt p k)(h1:1<=k)(e:di! (ay! (k-1)) (ay! k)):Asc lt p (k+1):=λi j aJ hj=>by
 by_cases q:j=k
 ·subst q;by_cases q2:i=j-1;·subst q2;exact e
  ·exact tr _ _ _ (h i (j-1) (by lia) (by lia)) e
 ·exact h i j aJ (by lia)
theorem Des.more{p:fA!}{k:Nat}(h:Des lt p k)(h1:1<=k)(e:di! (ay! k) (ay! (k-1))):Des lt p (k+1):=λi j aJ hj=>by
 by_cases q:j=k
 ·subst q;by_cases q2:i=j-1;·subst q2;exact e
  ·exact tr _ _ _ e (h i (j-1) (by lia) (by lia))
 ·exact h i j aJ (by lia)
include aD
theorem z9F{p:fA!}(P:PmN N p):∀(f n0:Nat),1<=n0->n0+f<=N->Asc lt p n0->∃m,d3! N (kas_asc p f n0)=b! m/\n0<=m/\m<=n0+f/\Asc lt p m/\(m<n0+f->di! (ay! m) (ay! (m-1)))
 | 0,n0,h1,hN,ha=>⟨n0,rfl,al!,al!,ha,λz=>oX! (by lia)⟩ | f+1,n0,h1,hN,ha=>by
  have b1:=P.bd (i:=n0) (by lia);have b2:=P.bd (i:=n0-1) (by lia);by_cases c:di! i6! (ay! (n0-1))
  ·refine⟨n0,?_,al!,by lia,ha,bf! c⟩;show (ij! (i6!<N/\ay! (n0-1)<N) (d3! N (aF! (lt i6! (ay! (n0-1))) (KasT.ret n0) (kas_asc p f (n0+1)))))=_;rw[cd! b1 b2,_i c];rfl
  ·have e:di! (ay! (n0-1)) i6!:=by
    rw[aD _ _ b1 b2 (P.ne (by lia) (by lia) (by lia))];simpa using c
   obtain⟨m,e1,e2,e3,e4,e5⟩:=z9F P f (n0+1) (by lia) (by lia) (ha.more tr h1 e);refine⟨m,?_,by lia,by lia,e4,λz=>e5 (by lia)⟩;show (ij! (i6!<N/\ay! (n0-1)<N) (d3! N (aF! (lt i6! (ay! (n0-1))) (KasT.ret n0) (kas_asc p f (n0+1)))))=_;rw[cd! b1 b2,_q c];exact e1
theorem zda{p:fA!}(P:PmN N p):∀(f n0:Nat),1<=n0->n0+f<=N->Des lt p n0->∃m,d3! N (kas_desc f p n0 0)=b! (p,m,0)/\n0<=m/\m<=n0+f/\Des lt p m
 | 0,n0,h1,hN,ha=>⟨n0,rfl,al!,al!,ha⟩ | f+1,n0,h1,hN,ha=>by
  have b1:=P.bd (i:=n0) (by lia);have b2:=P.bd (i:=n0-1) (by lia);by_cases c:di! i6! (ay! (n0-1))
  ·obtain⟨m,e1,e2,e3,e4⟩:=zda P f (n0+1) (by lia) (by lia) (ha.more tr h1 c);refine⟨m,?_,by lia,by lia,e4⟩;show (ij! (i6!<N/\ay! (n0-1)<N) (d3! N (aF! (lt i6! (ay! (n0-1))) (am! (0 > 0) (kas_desc f (kas_rev p (n0-(0+1)) n0) (n0+1) 0) (kas_desc f p (n0+1) 0)) _)))=_;rw[cd! b1 b2,_i c,_q (by lia)];exact e1
  ·have e:di! (ay! (n0-1)) i6!:=by
    rw[aD _ _ b1 b2 (P.ne (by lia) (by lia) (by lia))];simpa using c
   refine⟨n0,?_,al!,by lia,ha⟩;show (ij! (i6!<N/\ay! (n0-1)<N) (d3! N (aF! (lt i6! (ay! (n0-1))) _ (KasT.ask (ay! (n0-1)) i6! λd=>aF! d (.ret (p,n0,0)) (kas_desc f p (n0+1) (0+1))))))=_;rw[cd! b1 b2,_q c];show (ij! (ay! (n0-1)<N/\i6!<N) (d3! N (aF! (lt (ay! (n0-1)) i6!) (.ret (p,n0,0)) (kas_desc f p (n0+1) (0+1)))))=_;rw[cd! b2 b1,_i e];rfl
omit aD tr in
theorem zln{p:fA!} {m i:Nat} (hm:m<=oj!) (hi:i<m):at0 (kas_rev p 0 m) i=ay! (m-1-i):=by
 have e:=getElem?_mirror_all (xs:=p) (i:=0) (j:=m) hm i;rw[cd! g1! hi]at e;simp only[at0,Array.getD_eq_getD_getElem?,kas_rev];rw[e];simp
theorem zfZ{p:fA!}(P:PmN N p)(hN:1<=N):∃m p',d3! N (qI! N p)=b! (m,p')/\PmN N p'/\Asc lt p' m/\1<=m/\m<=N:=by
 obtain⟨m,e1,e2,e3,e4,e5⟩:=z9F aD tr P (N-1) 1 al! (by lia) (λi j h1 h2=>by lia);unfold kas_count;rw[kj,e1];simp only[_N];by_cases q:m=N
 ·rw[_i (by simpa using q)];exact⟨m,p,rfl,P,e4,e2,by lia⟩
 ·rw[_q (by simpa using q)];by_cases q1:m > 1
  ·rw[_i q1];have b1:=P.bd (i:=0) (by lia);have b2:=P.bd (i:=m-1) (by lia);have c:=e4 0 (m-1) (by lia) (by lia);refine⟨m,p,?_,P,e4,e2,by lia⟩;show (ij! (ay! 0<N/\ay! (m-1)<N) (d3! N (aF! (lt (ay! 0) (ay! (m-1))) (KasT.ret (m,p)) _)))=_;rw[cd! b1 b2,_i c];rfl
  ·rw[_q q1];have m1:m=1:=by lia
   subst m1;have c:=e5 (by lia);obtain⟨k,f1,f2,f3,f4⟩:=zda aD tr P (N-(1+1)) (1+1) (by lia) (by lia) (λi j h1 h2=>by
    have:i=0:=by lia
    have:j=1:=by lia
    subst i;subst j;exact c);unfold kas_descPart;rw[kj,f1];simp only[_N];rw[_q (by lia)];unfold kas_tail3;have P2:PmN N (kas_rev p 0 k):=P.of (mirror_perm _ _ _ _);have sz:=P.size;have iD:Asc lt (kas_rev p 0 k) k:=λi j h1 h2=>by
    rw[zln (by lia) (by lia),zln (by lia) (by lia)];exact f4 _ _ (by lia) (by lia)
   obtain⟨m2,g1,g2,g3,g4,_⟩:=z9F aD tr P2 (N-k) k (by lia) (by lia) iD;rw[kj,g1];exact⟨m2,kas_rev p 0 k,rfl,P2,g4,by lia,by lia⟩
theorem z5B{p:fA!}(P:PmN N p){k:Nat}(hk:k<N)(ha:Asc lt p k):∀(f l r:Nat),l<=r->r<=k->r-l<=f->(∀i,i<l->di! (ay! i) (ay! k))->(∀i,r<=i->i<k->di! (ay! k) (ay! i))-> ∃m,d3! N (kas_place p k f l r)=b! m/\m<=k/\(∀i,i<m->di! (ay! i) (ay! k))/\∀i,m<=i->i<k->di! (ay! k) (ay! i)
 | 0,l,r,h1,h2,h3,hl,hr=>⟨l,rfl,by lia,hl,λi z1 z2=>hr i (by lia) z2⟩ | f+1,l,r,h1,h2,h3,hl,hr=>by
  by_cases q:l ≥ r
  ·refine⟨l,?_,by lia,hl,λi z1 z2=>hr i (by lia) z2⟩;rw[kas_place,_i q];rfl
  ·have b1:=P.bd (i:=k) hk;have b2:=P.bd (i:=(l+r) / 2) (by lia);by_cases c:di! (ay! k) (ay! ((l+r) / 2))
   ·obtain⟨m,e1,e2,e3,e4⟩:=z5B P hk ha f l ((l+r) / 2) (by lia) (by lia) (by lia) hl (λi z1 z2=>by
     by_cases z:i=(l+r) / 2;·subst z;exact c
     ·exact tr _ _ _ c (ha _ _ (by lia) z2));refine⟨m,?_,e2,e3,e4⟩;rw[kas_place,_q q];show (ij! (ay! k<N/\ay! ((l+r) / 2)<N) (d3! N (aF! (lt (ay! k) (ay! ((l+r) / 2))) (kas_place p k f l ((l+r) / 2)) _)))=_;rw[cd! b1 b2,_i c];exact e1
   ·have e:di! (ay! ((l+r) / 2)) (ay! k):=by
     rw[aD _ _ b1 b2 (P.ne hk (by lia) (by lia))];simpa using c
    obtain⟨m,e1,e2,e3,e4⟩:=z5B P hk ha f ((l+r) / 2+1) r (by lia) h2 (by lia) (λi z1=>by
     by_cases z:i=(l+r) / 2;·subst z;exact e
     ·exact tr _ _ _ (ha _ _ (by lia) (by lia)) e) hr;refine⟨m,?_,e2,e3,e4⟩;rw[kas_place,_q q];show (ij! (ay! k<N/\ay! ((l+r) / 2)<N) (d3! N (aF! (lt (ay! k) (ay! ((l+r) / 2))) _ (kas_place p k f ((l+r) / 2+1) r))))=_;rw[cd! b1 b2,_q c];exact e1
omit aD tr in
theorem zky{p:fA!} {k l i:Nat} (hk:k<oj!) (hl:l<=k) (hi:i<=k):at0 (bubble p k (k-l)) i=ai! i l (ay! k) (am! (l<i) (ay! (i-1)) (ay! i)):=by
 have e:=getElem?_bubble (xs:=p) (src:=k) hk (k-l) (by lia) i;simp only[at0,Array.getD_eq_getD_getElem?];rw[e];by_cases q:i=l;·rw[_i (by lia),_i q]
 ·rw[_q (by lia),_q q];by_cases q2:l<i;·rw[_i (by lia),_i q2]
  ·rw[_q (by lia),_q q2]
theorem zfQ:∀(f k:Nat)(p:Array Nat),PmN N p->k+f=N->Asc lt p k->∃p',d3! N (kas_bin f p k)=b! p'/\PmN N p'/\Asc lt p' N
 | 0,k,p,P,hk,ha=>mE! p P (by rw[<- hk];exact ha) | f+1,k,p,P,hk,ha=>by
  obtain⟨l,e1,e2,e3,e4⟩:=z5B aD tr P (k:=k) (by lia) ha k 0 k g1! al! (by lia) (λi z=>oX! (by lia)) (λi z1 z2=>bS! z1 (by lia));have sz:=P.size;have P2:PmN N (bubble p k (k-l)):=P.of (bubble_perm _ _ _);have iD:Asc lt (bubble p k (k-l)) (k+1):=λi j h1 h2=>by
   rw[zky (by lia) e2 (by lia),zky (by lia) e2 (by lia)];by_cases qi:i=l
   ·rw[_i qi,_q (by lia),_i (by lia)];exact e4 (j-1) (by lia) (by lia)
   ·rw [_q qi];by_cases qj:j=l
    ·rw[_i qj,_q (by lia)];exact e3 i (by lia)
    ·rw[_q qj];by_cases q1:l<i
     ·rw[_i q1,_i (by lia)];exact ha _ _ (by lia) (by lia)
     ·rw[_q q1];by_cases q2:l<j
      ·rw[_i q2];by_cases q3:j-1=i;·lia
       ·exact ha _ _ (by lia) (by lia)
      ·rw[_q q2];exact ha _ _ h1 (by lia)
  obtain⟨p',g1,g2,g3⟩:=zfQ f (k+1) _ P2 (by lia) iD;refine ck! p' ?_ g2 g3;rw[kas_bin,kj,e1];exact g1
theorem ziP(hN:1<=N):∃p,d3! N (kas_sort N)=b! p/\qH! (mb! N)/\rJ! (di! i j):=by
 have P:PmN N (gi! N):=⟨by rfl⟩;obtain⟨m,p,e1,e2,e3,e4,e5⟩:=zfZ aD tr P hN;have fin:∀p:Array Nat,PmN N p->Asc lt p N->rJ! (di! i j):=λp P ha=>by
  rw[List.pairwise_iff_getElem];intro i j hi hj aJ;have sz:=P.size;have gv:j<oj!:=by simpa using hj
  have:=ha i j aJ (by lia);rw[at0,at0,Array.getD,Array.getD,qA! (by lia),qA! gv]at this;simpa using this
 unfold kas_sort;rw[kj,e1];simp only[_N];by_cases q:m<N
 ·rw[_i q];have hm:max m 1=m:=by lia
  rw[hm];obtain⟨p',g1,g2,g3⟩:=zfQ aD tr (N-m) m p e2 (by lia) e3;exact⟨p',g1,g2.pm,fin p' g2 g3⟩
 ·rw[_q q];have:m=N:=by lia
  subst this;exact mE! p e2.pm (fin p e2 e3)
end
noncomputable def zp3(fin:Bool):i!->eC! i!
 | x::a,y::b=>ai! x y (zp3 fin a b) (ey! x y) | _,_=>fin
theorem zlK(f:Bool) (x y:Int) (a b:i!):zp3 f (x::a) (y::b)=ai! x y (zp3 f a b) (ey! x y):=U!
theorem zlD:∀ns ms:List Int,zp3 (ey! eN! ms.length) ns ms=gK! ns ms
 | [],[]=>by rfl | [],_::_=>by rfl | _::_,[]=>by rfl | x::a,y::b=>by simp only[zlK,lexN,_h,Nat.add_lt_add_iff_right,(zlD a b)]
def TupAt(h:Heap)(v:Value)(ns:i!):g!:=∃a o n us,v=ac!/\cG! a/\gd!=dC!/\ib!=.seq us n/\kI us.toList ns/\a3! ns
inductive vF (h:Heap):bU!->ff!->g! | nil:vF h [] [] | cons {v p vs ps}:TupAt h v p->vF h vs ps->vF h (v::vs) (p::ps)
theorem vF.length: ∀{vs ps},vF h vs ps->mu!:=λr=>by induction r with
 | nil=>rfl | cons _ _ ih=>exact _at (· + 1) ih
theorem vF.at_: ∀{vs ps},vF h vs ps->∀i,i<a5!->TupAt h (vs.getD i X!) (gp! []):=λr=>by induction r with
 | nil=>exact eP! (bS! hi (Nat.not_lt_zero i)) | cons p _ ih=>
  intro i hi;cases i with
  | zero=>exact p | succ i=>exact ih i (_b7 hi)
theorem vF.mono(k:bG! (cG! b->dw! b)):∀{vs ps},vF h vs ps->vF h' vs ps:=λr=>by induction r with
 | nil=>exact cu! | cons p _ ih=>
  refine eI! ?_ ih;obtain⟨a,o,n,us,e,g,q⟩:=p;exact⟨a,o,n,us,e,k _ _ g,q⟩
theorem vF.tups: ∀{vs ps},vF h vs ps->∃fs,KatTups h vs fs/\fs.length=a5!/\∀v∈fs,∃i t,v=b7! i:=λr=>by induction r with
 | nil=>exact fg! [] KatTups.nil (λv hv=>nomatch hv) | cons p _ ih=>
  obtain⟨a,o,n,us,rfl,g,c,d,i,z⟩:=p;obtain⟨fs,k,l,m⟩:=ih;obtain⟨ul⟩:=us;cases i with
  | nil=>exact fe! z | cons i'=>exact⟨_,KatTups.cons g c d rfl k,_at (· + 1) l,_cp.mpr ⟨b5! _,m⟩⟩
section
variable {prog:Program}{w:World}{A:Around}{E:bX!}{s:Shared}
theorem zjb: ∀{xs ys:List Value}{ns ms:List Int}(i:Nat),kI xs ns->kI ys ms->C (zp3 fin ns ms) s->KatLex m6! w A c! fin C (xs.zip ys) i s:=λ{xs ys ns ms} i r r'=>by induction r generalizing i ys ms with
 | nil=>exact λh=>kat_nil h | @cons x _ _ _ r ih=> cases r' with
  | nil=>exact λh=>kat_nil h | @cons y _ _ _ r'=>
   intro h;rw[zlK]at h;refine kat_cons (_cc (kat_go (λe=>kat_yes (ih (i+1) r' ?_)) λe=>kat_no ?_));·rwa [_i (by simpa using e)]at h
   ·rw[_q (by simpa using e)]at h;cases i with
    | zero=>exact oneLt_int h | succ i=>exact kat_one _ _ (PyProof.Rows.lt_int h)
theorem zmZ(hv:TupAt F! v p)(hu:TupAt F! u q)(h:C (gK! p q) s):cB! w A (keyLt' lR! v u) C E s:=by
 obtain⟨a,o,n,us,rfl,g,c,d,i,_⟩:=hv;obtain⟨b,o',n',nV,rfl,g',c',d',i',_⟩:=hu;refine kat_lt g d g' d' (zjb 0 i i' ?_);rw[(show ey! us.size nV.size=ey! p.length q.length from by
  have:=i.length;have:=i'.length;simp only[_aY]at *;simp[*]),zlD];exact h
theorem zh1(hp:vF F! vs ps)(h0:0<a5!)(h:Q lR! s):cB! w A (keyKind' eM!) Q E s:=by
 obtain⟨fs,k,l,m⟩:=hp.tups;refine kat_kind (T:=ar! eo!) k (by rw[l];exact h0) (λv hv=>?_) rfl h;obtain⟨i,t,rfl⟩:=m v hv;exact Looks.of_pure rfl
theorem znX{G:fA!->ev!}(h2:2<=n) (hG:∀p' ay s',p'.size=n->pi! ay=p'.map (qG! it)->sF!=a!->G p' s'->Q () ay s')(h:(qI! n (gi! n)).kasWp (kas_cmp m6! w A κ it) (λr s'=>r.1=n/\G r.2 s') s): kasC h9! A E sortRuns' Q (qJ! κ it (gi! n)) s:=by
 obtain⟨r,rfl⟩:∃r,n=r+2:=⟨n-2,by lia⟩;have iE:(gi! (r+2)).size=r+2:=by simp
 rw[sortRuns'_eq];refine pk! (kasC_get ?_);dsimp only;have bf:(pi! (qJ! κ it (gi! (r+2)))).size=r+2:=by
  show ((gi! (r+2)).map (qG! it)).size=_;rw[Array.size_map,iE]
 have iF:∀f m c,m+c<=r+2->1<=m->minRun' f m c<=r+2:=by
  intro f;induction f with
  | zero=>intro m c h _;exact h | succ f ih=>
   intro m c h h1;rw[minRun'_succ];split;·exact h
   ·exact ih _ _ (by lia) (by lia)
 have iF:=iF (r+2) (r+2) 0 al! (by lia);simp only[bf];generalize minRun' (r+2) (r+2) 0=mr at iF;refine pk! (kasC_range ?_);show kasC _ _ _ (forIn (0::1::oe! 2 r) _ _) _ _ _;refine kasC_cons ?_;dsimp only;rw[_q (by lia)];simp only[_as];refine pk! (kas_count_ (by lia) (by rw[iE];exact al!) (λm p' s' lm cn hp hg=>?_) h);have dO := hp.trans iE;obtain⟨em,nW⟩:=hg;have nX := em;subst nX;dsimp only;rw[_q (by lia)];refine pk! (kasC_get ?_);rw[show (pendingOf (qJ! κ it p')).back? = a! from rfl];dsimp only;refine pk! (kasC_modify (kasC_pure ?_));show kasC _ _ _ (forIn (1::oe! 2 r) _ _) _ _ _;refine kasC_cons ?_;dsimp only;rw[_i al!];refine kasC_pure ?_;dsimp only;refine pk! (kasC_range ?_);show kasC _ _ _ (forIn (0::1::oe! 2 r) _ _) _ _ _;refine kasC_cons ?_;refine pk! (kasC_get ?_);rw[_i (show (pendingOf (setPending (qJ! κ it p') (c7! (pendingOf (qJ! κ it p')) (0,r+2,0)))).size<=1 from _k 1)];refine kasC_pure ?_;dsimp only;exact kasC_pure (hG p' _ _ dO rfl rfl nW)
def zpJ(ps:ff!)(p:fA!):g!:= (a5!<2/\p=gi! a5!)\/ (2<=a5!/\a5!<64/\ro! (λi j=>gK! (gp! []) (oS! [])) rL!=b! p)\/ (2<=a5!/\ro! (λi j=>gK! (gp! []) (oS! [])) (qI! a5! (gi! a5!))=b! (a5!,p))
theorem ziR{Q:SortSt->ev!} (hp:vF F! vs ps) (h2:2<=a5!) (hP:zpJ ps p) (h:∀ay,oj!=dy!->pi! ay=p.map (qG! j6!)->sF!=a!->Q ay s): cB! w A ((sortRuns').run (SortSt.mk' lR! j6! #[] 7 a!)) (λr s'=>Q r.2 s') E s:=by
 have bK:=hp.length;have ec:∀i j (C:Bool->Shared->Prop),i<a5!->j<a5!->C (gK! (gp! []) (oS! [])) s->kas_ask m6! w A lR! vs i j C s:=λi j C hi hj hC=>zmZ (hp.at_ i hi) (hp.at_ j hj) hC;rcases hP with⟨z,_⟩ | ⟨_,fJ,e⟩ | ⟨_,e⟩;·lia
 ·refine kat_run (G:=λq s'=>q=p/\s'=s) rfl (by lia) (by lia) (λq ay s' a1 a2 a3 a4=>?_) (zee ec _ p (by rw[bK];exact e) (co! rfl));obtain⟨rfl,rfl⟩:=a4;exact h ay a1 a2 a3
 ·have hc:(qI! dy! (gi! dy!)).kasWp (kas_cmp m6! w A lR! j6!) (λr s'=>r.1=dy!/\(r.2=p/\s'=s)) s:=by
   rw[<- kat_ask_eq rfl];refine zee ec _ (a5!,p) (by rw[bK];exact e) (aC! bK.symm rfl)
  have run:=znX (E:=E) (Q:=λ_ ay s'=>Q ay s') (G:=λq s'=>q=p/\s'=s) (by lia) (λq ay s' a1 a2 a3 a4=>by obtain⟨rfl,rfl⟩:=a4;exact h ay a1 a2 a3) hc;have nY:SortSt.mk' lR! j6! #[] 7 a!=qJ! lR! j6! (gi! dy!):=by
   have e:=kas_range j6!;rw[show (j6!).size=dy! by simp]at e;show SortSt.mk' lR! j6! #[] 7 a!=SortSt.mk' lR! ((gi! dy!).map (qG! j6!)) #[] 7 a!;rw[e]
  rw[nY];exact run
theorem z9J(ho:fU! a (ms! n)) (hp:∀h',(bG! (b≠a->dm! b->dw! b))->vF h' vs ps) (ai:dy!<=aW!) (hP:zpJ ps p) (h:P (.done (.ret X!)) {s with heap:=sortedHeap F! a vs (z7u vs p)}):cB! w A (Builtin.«list.sort» (dG! [ac!])) P E s:=by
 have ha := _r ho;have bK := q! (hp F! λ_ _ _ e=>e);obtain⟨e1,g1⟩:∃e1,e6! (lJ! a (bf! (#[]:cz!))) a (kN! #[] e1):=c0! (get?_update_seq ho (bf! #[]));have g2:e6! (c7! (c7! (lJ! a (bf! (#[]:cz!))) (oQ! 0)) (kN! #[] 0)) a (kN! #[] e1):=_g _ (_g _ g1);have ed:vF (c7! (c7! (lJ! a (bf! (#[]:cz!))) (oQ! 0)) (kN! #[] 0)) vs ps:=hp _ (kA! (_g _ (_g _ (a4! ((_bM F! a (sK! (bf! (#[]:cz!)))).2 b hb) e))));rw[list_sort_plain];refine _a (listItems_at ho rfl (_a (_cm ho rfl (_a (_c6 g1 rfl (_a (_cO (_a (_dl (_aT ?_) g1!)) ai)))) (by rw[_s];exact ai) g1!)));dsimp only;by_cases bQ:vs.toArray.size<2
 ·rw[_i bQ,_i bQ];have small:dy!<2:=by simpa using bQ
  have ep:p=gi! a5!:=by
   rcases hP with⟨_,z⟩ | ⟨z,_⟩ | ⟨z,_⟩;·exact z
   ·lia
   ·lia
  have eo:z7u vs p=eM!:=by
   rw[ep,<- bK];unfold z7u;congr 1;apply _aL;·simp
   ·intro i h1 h2;simp[h2]
  refine _a (_m (_a (_m ?_)));dsimp only;have fK:(pi! (SortSt.mk' general' j6! #[] 7 a!)).map (·.2)=eM!:=by
   show ((j6!).map (·.2))=_;apply Array.ext_getElem?;intro i;by_cases hi:i<dy!<;>simp[hi]
  rw[fK];refine _a (_c6 g2 rfl (_a (_cm g2 rfl ?_ g1! (by rw[_s];exact _b8 ai))));simp only[_c7,_a1];rw[eo]at h;exact _m h
 ·rw[_q bQ,_q bQ];have b2:2<=a5!:=by rw[<- bK];simpa using bQ
  refine _a (zh1 ed (by lia) ?_);refine _a (_Z (ziR (Q:=λay s'=>oj!=dy!/\pi! ay=p.map (qG! j6!)/\sF!=a!/\s'={s with heap:=c7! (c7! (lJ! a (bf! (#[]:cz!))) (oQ! 0)) (kN! #[] 0)}) ed b2 hP λay a1 a2 a3=>ck! a1 a2 a3 rfl) ?_ λ_ _ z=>z);rintro⟨⟨⟩,ay⟩ s' ⟨hq,iB,hf,rfl⟩;dsimp only;have fK:=kat_snds rfl iB;rw[fK,hf];refine _a (_c6 g2 rfl (_a (_cm g2 rfl ?_ g1! (by rw[_s,_z,_aY,hq];exact _b8 ai))));simp only[_c7,_a1];exact _m h
theorem zeV(hl:s.heap.IsList l eM!) (hp:vF F! vs ps) (ai:dy!<=aW!) (hP:zpJ ps p) (h:Q (w! dO!) {s with heap:=sC! vs (z7u vs p)}): cB! w A (pU! lh! [ez!]) Q E s:=by
 refine Calls.call_function_entry kind_sorted plain_sorted entry_sorted (args_sorted1 _) ?_;unfold Builtin.«sorted»;refine _a (_m (_a (collect_list hl (_a (_dl ?_ (by simpa using ai))) (by simpa using ai))));have sz:eb! (oJ! (oF! #[] 0) (· ++ eM!))=dO!:=by rw[Heap.size_update,size_push']
 have g:e6! (c7! (oJ! (oF! #[] 0) (· ++ eM!)) (ms! 0)) dO! (ms! 0):=by
  rw[<- sz];exact g2!
 have keep:bG! (dm! b->e6! (c7! (oJ! (oF! #[] 0) (· ++ eM!)) (ms! 0)) b o/\b≠dO!):=λb o q=>by
  have lt := _r q;refine⟨?_,_D (_aW lt)⟩;rw[_b9 _ _ _ (by rw[sz];exact _D (_aW lt)),Heap.get?_update_ne _ _ _ _ (_D lt),_b9 _ _ _ (_D lt)];exact q
 show cB! w _ _ _ _ ({s with heap:=c7! (oJ! (oF! #[] 0) (· ++ eM!)) (ms! 0)});rw[sz];exact _a (_aT (_aw slot_list_sort (b5! g) entry_list_sort (z9J g (λh' k=>hp.mono λb o q=>k b o (keep b o q).2 (keep b o q).1) ai hP (aC! _ (_m (bM! rfl h)))) (args_list_sort _)))
end
section
variable {X:Cx}{E:XK}
def zkH(K:W.Frag):aG!->Hp->eA!:=λxs H Q=>∃(l:Addr)(ys:List V)(ps:List (List Int))(p:Array Nat),xs=[ez!]/\SqL K H l ys/\p3! (λv ns=>AtN H v ns) ys ps/\(∀n∈ps,a3! n)/\zpJ ps p/\ (∀i∈p.toList,i<c6!)/\rY! c6!/\∀r,H r=a!->Q (w! r) (hS! r (ad! (j9! (rs! i))))
theorem zny{O:L2.St} (I:K!):∀{ys:List V}{af:List Value}{ps:List (List Int)},xl ys af->p3! (λv ns=>AtN H v ns) ys ps->(∀n∈ps,a3! n)->vF F! af ps:=λ{ys af ps} r p hn=>by induction p generalizing af with
 | nil=>cases r;exact cu! | cons a p ih=>
  cases r with | cons r rs=>?_;refine eI! ?_ (ih rs λn hm=>hn n (.tail _ hm));obtain⟨b,af,rfl,rfl,⟨o,g,c,k,d⟩,z⟩:=a.tuple I r;exact⟨b,o,k,af,rfl,g,c,d,z,hn _ jP!⟩
theorem zez:jA! X lh! (zkH X.K):=by
 intro ae s O H xs us Q I r h;obtain⟨l,ys,ps,p,rfl,hq,hp,hn,hP,cv,au,q⟩:=h;obtain⟨u,rfl,rx⟩:=k0!;cases rx;obtain⟨af,r',pl,hz⟩:=lZ!;have ap:=r'.length;refine zeV (ps:=ps) (p:=p) pl.isList (zny I r' hp hn) (by lia) hP ?_;obtain⟨c',e⟩:=sortedAll_at F! af (z7u af p);refine⟨w! dO!,_,I.laid (t':=s.toks) (λb o z=>sortedAll_old z) (_c5 _) (show jA aT! X.w _ (sC! af (z7u af p)) _ (ad! (j9! (rs! i))) from⟨?_,_,c',z8P r' p.toList cv,e⟩),rfl,q _ (sa! (_c5 _))⟩;rw[_z,au];exact hz
noncomputable def zqn(L:ff!):bm! fA!:= am! (aA!<2) (b! (gi! aA!)) (am! (aA!<64) (kev aA! (λi j=>gK! (cx! i) (cx! j)) (kas_sort aA!)) (match kev aA! (λi j=>gK! (cx! i) (cx! j)) (qI! aA! (gi! aA!)) with
  | some (m,p)=>ij! (m=aA!) (b! p) | none=>none))
theorem zgl(h:zqn L=b! p):zpJ L p:=by
 unfold zqn at h;split at h;·rename_i q;exact y! ⟨q,(_p h).symm⟩
 ·split at h;·rename_i q1 q2;exact Q! (y! ⟨by lia,q2,h⟩)
  ·split at h
   ·rename_i m q e;split at h
    ·rename_i em;cases h;subst em;exact in! ⟨by lia,e⟩
    ·cases h
   ·cases h
noncomputable def z7U(s:Sto)(d:D):bm! v!:=match l4! d with
 | some xs=>match zbZ xs with
  | some L=>match zqn L with
   | some p=>ij! (L.all (λn=>!n.isEmpty)=c!/\p.toList.all (λi=>ey! i x!)=c!/\rY! x!) (b! (j9! (xs.getD i aJ!))) | none=>none
  | none=>none
 | none=>none
noncomputable def zrR:Mir:=λds s=>match ds with
 | [d]=>match z7U s d with | some ys=>ab! (da! ys) (gs! (s++[ys])) | none=>.no
 | _=>.no
noncomputable def zao:Mir:=λds s=>match ds with
 | [d]=>match z7U s d with | some ys=>j! hW! | none=>.no
 | _=>.no
theorem znp(r:Rep J! H Y s)(dn:Den J! H Y d v)(e:z7U s d=b! ys)(q:∀vs,yj J! H Y ys vs->∀a,H a=a!->Q ac! (g4! cp!)):zkH X.K [v] H Q:=by
 unfold z7U at e;split at e
 ·rename_i xs ex;split at e
  ·rename_i L eL;split at e
   ·rename_i p ep;split at e
    ·rename_i hp;cases e;obtain⟨a,ws,rfl,q1,q2⟩:=yn r ex dn;have hl:=q2.length;have cv:∀i∈p.toList,i<x!:=eP! (by simpa using _T.mp hp.2.1 i hi)
     exact⟨a,ws,L,p,rfl,y! q1,zbQ eL q2,(λn hn z=>by have:=_T.mp hp.1 n hn;rw[z]at this;cases this),zgl ep,eP! (by have:=cv i hi;lia),by rw[hp.2.2];lia,q _ (z9y q2 _ cv)⟩
    ·cases e
   ·cases e
  ·cases e
 ·cases e
theorem znQ:∃r,jA! X lh! r/\z1P X E r zao:=j7! zez.freeze (by
 unfold zao at h;split at h
 ·rename_i d;split at h
  ·rename_i ys e;obtain⟨v,rfl,dn⟩:=ld!;exact znp r dn e λvs dv=>z06 r h dv
  ·exact h.elim
 ·exact h.elim)
end
end Dd
namespace Pg
open L2 Dd
noncomputable def z2x:mT!:=[("next",mZ!),("least",m0!),(jh!,m1!),(gb!,m2!)]
@[simp] noncomputable def zbq:FS:=(xf (zaN (eIs eo! o!) (zra (pW! o!))))
noncomputable def zcj:FS:=zbq
noncomputable def z18:Mir:=cT! cY! zcj
@[simp] noncomputable def zbI:FS:=(xf (zaN (oM! o!) (zen dLe dLe (T! 2) ej! (T! 4))))
noncomputable def qt:FS:=zbI
noncomputable def yR:Mir:=cT! cY! qt
@[simp] noncomputable def z7w:FS:=(xf (eC cJ!))
@[simp] noncomputable def z7D:FS:=(bp! (fOr (fk! (oM! o!)) (hq! ej! n!)) z7w)
@[simp] noncomputable def z1D:FS:=(xf (a0! zfs (kg! cN! [a!] 0 (a6! z18))))
noncomputable def uS:FS:=(zx z7D z1D)
noncomputable def ya:Mir:=c3! [kF!,"many"] uS
@[simp] noncomputable def vR:FS:=(zr8 0 1 (aQ! n! (et! zdO 0 n!)))
@[simp] noncomputable def jB:FS:=(z1x (eg! 1 C!) vR)
@[simp] noncomputable def z3p:FS:=(xf o!)
noncomputable def kU:FS:=(zx jB z3p)
noncomputable def vp:Mir:=c3! mP! kU
@[simp] noncomputable def zfi:FS:=(xf (eC cJ!))
@[simp] noncomputable def z3D:FS:=(bp! (fOr (fk! (a6! yR)) (fk! (du! ya ej!))) zfi)
@[simp] noncomputable def z8e:FS:=(xf (zaN (eOp dGe (a6! z5K) C!) (eOp dGt (a6! vy) C!)))
noncomputable def z5Q:FS:=(zx z3D z8e)
noncomputable def yZ:Mir:=cT! cY! z5Q
@[simp] noncomputable def zac:FS:=fNo
@[simp] noncomputable def zb3:FS:=(bp! (fk! (a6! yZ)) zac)
noncomputable def z6L:FS:=zb3
noncomputable def xn:Mir:=cT! cY! z6L
@[simp] noncomputable def z9I:FS:=(bp! (fk! (a6! yZ)) (z8n g5!))
noncomputable def z3S:FS:=z9I
noncomputable def xN:Mir:=kX cY! 1 z3S
@[simp] noncomputable def zeO:FS:=(we (a6! xn))
@[simp] noncomputable def z8x:FS:=(yq 1 C!)
@[simp] noncomputable def z2Y:FS:=(yq 1 (eU! vp n! 2))
@[simp] noncomputable def z3x:FS:=(gx! cN! 2 z2Y)
@[simp] noncomputable def z8d:FS:=(xf n!)
noncomputable def zbe:FS:=(zx zeO (bh! z8x z3x z8d))
noncomputable def z5i:Mir:=cT! [aB!,"divisor",iQ!] zbe
@[simp] noncomputable def zd7:FS:=(we (a6! xN))
noncomputable def zfl:FS:=(zx zd7 (bh! (z0v z8x) (z0v z3x) (z0v z8d)))
noncomputable def z5q:Mir:=kX [aB!,"divisor",iQ!] 1 zfl
@[simp] noncomputable def z9H:FS:=(we (a6! xn))
@[simp] noncomputable def z2w:FS:=(xf (eOp dEq (a0! yH (zt cN! [a!] (yh 0) (eg! 0 C!) o!)) ao!))
noncomputable def z3Q:FS:=(zx z9H z2w)
noncomputable def xB:Mir:=cT! hX! z3Q
@[simp] noncomputable def zb0:FS:=(xf (a0! zmd (lW! (z4W (cn! o! 1)) i9! (yM 0 1) (hz! 0 n!))))
noncomputable def z5H:FS:=zb0
noncomputable def xQ:Mir:=c3! [ec!,kG!] z5H
@[simp] noncomputable def z1d:FS:=(xf (eB! (jw (bI! ej!)) (ag! 0) 1 (eB! cN! b9! 1 (gq! 1))))
noncomputable def z2a:FS:=z1d
noncomputable def yQ:Mir:=cT! [eq!] z2a
@[simp] noncomputable def z6d:FS:=(yq 3 (bd! (gu! o! n!) (e2! o! (gt! 1))))
@[simp] noncomputable def z6s:FS:=(xf (eB! (zT ba!) (ag! 2) 1 (bd! (gu! n! o!) (e2! n! (gt! 0)))))
noncomputable def z8E:FS:=(zx z6d z6s)
noncomputable def xK:Mir:=Mof [jv!,"at_line",qK!,"kept"] 3 z8E
@[simp] noncomputable def zc3:FS:=(xf (eIf (fa! (eOp zdO (jF! 0 n!) (T! 2)) C!) ao! d1!))
noncomputable def z8j:FS:=zc3
noncomputable def wd:Mir:=c3! [ec!,lA!] z8j
@[simp] noncomputable def z0x:FS:=(yq 1 (eLR (cw! 0)))
@[simp] noncomputable def z0j:FS:=(xf (eB! (zT n!) b9! 1 (eB! cN! b9! 1 (eIf (fa! o! n!) ao! C!))))
noncomputable def z1m:FS:=(zx z0x z0j)
noncomputable def xH:Mir:=cT! [mh!,lB!] z1m
@[simp] noncomputable def z7c:FS:=(xf (eB! cN! b9! 1 (eU! xQ n! 0)))
noncomputable def z1F:FS:=z7c
noncomputable def xC:Mir:=c3! [jv!,kG!] z1F
@[simp] noncomputable def z9O(Mr:Mir):FS:=(xf (df! (gX! 0) C!))
@[simp] noncomputable def z8M(Mr:Mir):FS:=(bp! (fa! ej! ao!) (z9O Mr))
@[simp] noncomputable def z2l(Mr:Mir):FS:=(xf (a0! zmd (lW! (z20 (bI! (gX! 0))) (dI! 0) (yM 1 2) (jf! (jf! (eU! wd C! 1) H!) (a0! Mr (ze xK (zb o! (cn! C! 1))))))))
noncomputable def z0z(Mr:Mir):FS:=(zx (z8M Mr) (z2l Mr))
def yC:Nat->Mir
 | 0=>λ_ _=>.no | k+1=>cT! [jv!] (z0z (yC k))
noncomputable def xy:Mir:=yC 4
@[simp] noncomputable def zbz:FS:=(xf (eC cJ!))
@[simp] noncomputable def zbE:FS:=(bp! (fk! (a6! yR)) zbz)
@[simp] noncomputable def z4q:FS:=(xf (a0! zfs (kg! cN! (ag! 0) 1 (ze ya (aQ! n! ej!)))))
noncomputable def z6x:FS:=(zx zbE z4q)
noncomputable def vL:Mir:=cT! cY! z6x
@[simp] noncomputable def z7q:FS:=fNo
@[simp] noncomputable def z7J:FS:=(bp! (fk! (a6! vL)) z7q)
noncomputable def z2f:FS:=z7J
noncomputable def yF:Mir:=cT! cY! z2f
@[simp] noncomputable def z5P:FS:=(bp! (fk! (a6! vL)) (z8n ji!))
noncomputable def z7Q:FS:=z5P
noncomputable def z0m:Mir:=kX cY! 1 z7Q
@[simp] noncomputable def z7O:FS:=(we (a6! yF))
@[simp] noncomputable def z7p:FS:=(we (cy! yF 1))
@[simp] noncomputable def z7B:FS:=fNo
@[simp] noncomputable def z7T:FS:=(bp! (hq! ej! (hv! 1)) z7B)
@[simp] noncomputable def z1G:FS:=(xf (a0! yQ (eB! (zT (cy! yQ 1)) (ag! 0) 1 (cU! xC))))
noncomputable def z2C:FS:=(zx z7O (bh! z7p z7T z1G))
noncomputable def wW:Mir:=c3! mP! z2C
@[simp] noncomputable def z7l:FS:=(we (a6! yF))
@[simp] noncomputable def jv:FS:=(xf (a6! xy))
noncomputable def z2d:FS:=(zx z7l jv)
noncomputable def wY:Mir:=cT! [eq!] z2d
@[simp] noncomputable def z6U:FS:=(we (a6! z0m))
noncomputable def z7E:FS:=(zx z6U (z0v jv))
noncomputable def z0p:Mir:=kX [eq!] 1 z7E
@[simp] noncomputable def z6w:FS:=(yq 1 (a6! wY))
@[simp] noncomputable def z70:FS:=fNo
@[simp] noncomputable def z5N:FS:=(bp! (zkV (eg! 1 ao!) (eg! 1 d1!)) z70)
@[simp] noncomputable def qA:FS:=(yq 2 (eLR (bI! ej!)))
@[simp] noncomputable def qu:FS:=(xf (eB! (zT H!) (hy! 2 1 0) 3 (eB! cN! (hy! 1 3 2) 3 (jf! (hz! 0 (eU! wd n! 3)) (a0! xy (ze xK (zb H! (cn! ba! 1))))))))
noncomputable def z1q:FS:=(zx z6w (bh! z5N qA qu))
noncomputable def uX:Mir:=cT! [eq!,ok!,lB!] z1q
@[simp] noncomputable def z4x:FS:=(yq 1 (a6! z0p))
@[simp] noncomputable def z4z:FS:=(bp! (zkV (eg! 1 ao!) (eg! 1 d1!)) (z8n jj!))
noncomputable def z7d:FS:=(zx z4x (bh! z4z (z0v qA) (z0v qu)))
noncomputable def uV:Mir:=kX [eq!,ok!,lB!] 1 z7d
@[simp] noncomputable def wB:FS:=(yq 2 (z9W (bI! (a6! xH))))
@[simp] noncomputable def xj:FS:=(we (zcA H! (eU! wW (fy! 2 d1!) 3)))
@[simp] noncomputable def wy:FS:=(gx! (zT n!) 3 xj)
@[simp] noncomputable def uO:FS:=(xf H!)
noncomputable def qp:FS:=(bh! wB wy uO)
noncomputable def xZ:Mir:=c3! [mh!,nj!,"products",eq!] qp
noncomputable def z19:FS:=(bh! (z0v wB) (z0v wy) (z0v uO))
noncomputable def xY:Mir:=kX [mh!,nj!,"products",eq!] 2 z19
@[simp] noncomputable def ve:FS:=(yq 1 (zlH o! (a6! vy)))
@[simp] noncomputable def vh:FS:=(xf (cF! n! (bd! (bd! (gu! o! n!) (uD (bI! C!))) (e2! o! (gt! 1)))))
noncomputable def vG:FS:=(zx ve vh)
noncomputable def zV:Mir:=cT! [aB!,"at"] vG
@[simp] noncomputable def z0F:FS:=(xf (zlH o! (a0! z5K (zt cN! [a!] (yh 0) (eg! 0 C!) o!))))
noncomputable def z1c:FS:=z0F
noncomputable def xc:Mir:=cT! hX! z1c
@[simp] noncomputable def z6e:FS:=(xf (zt (jw (bI! ej!)) b9! cj! (eg! 1 o!) n!))
noncomputable def z7Z:FS:=z6e
noncomputable def uA:Mir:=c3! [aB!,qL!] z7Z
@[simp] noncomputable def zcG:FS:=(xf (zaN (eIs gc! o!) (zho z2x r! o!)))
noncomputable def z82:FS:=zcG
noncomputable def vm:Mir:=cT! cY! z82
@[simp] noncomputable def zaM:FS:=(xf (eIf (fa! o! (bV! gb!)) (bd! (e2! n! ao!) (gu! n! ao!)) n!))
noncomputable def zej:FS:=zaM
noncomputable def jO:Mir:=c3! [c8!,kG!] zej
@[simp] noncomputable def zcU:FS:=(zit (a6! zV) (yM 1 2))
@[simp] noncomputable def z6T:FS:=(xf (cF! (zlH H! (cy! vy 2)) (kQ (cw! 1))))
noncomputable def z88:FS:=(zx zcU z6T)
noncomputable def qm:Mir:=cT! [aB!,qM!,qN!] z88
@[simp] noncomputable def zag:FS:=(zit (a6! zV) (yM 1 2))
@[simp] noncomputable def zb1:FS:=(xf (cF! (cy! xc 2) (kQ (cw! 1))))
noncomputable def z6K:FS:=(zx zag zb1)
noncomputable def vQ:Mir:=cT! [aB!,qM!,qN!] z6K
@[simp] noncomputable def zeZ:FS:=(yq 1 (a6! xc))
@[simp] noncomputable def zeR:FS:=(xf (cF! n! (cU! uA)))
noncomputable def zbn:FS:=(zx zeZ zeR)
noncomputable def kg:Mir:=cT! [aB!,ha!] zbn
@[simp] noncomputable def zcn:FS:=(xf (cF! C! (kQ zj)))
@[simp] noncomputable def zck:FS:=(bp! (fa! (gX! 0) C!) zcn)
@[simp] noncomputable def zcZ:FS:=(xf (cF! C! (du! uA C!)))
noncomputable def z8r:FS:=(zx zck zcZ)
noncomputable def qr:Mir:=cT! hX! z8r
@[simp] noncomputable def z9q:FS:=fNo
@[simp] noncomputable def z9t:FS:=(bp! (fk! (a6! vm)) z9q)
noncomputable def z4g:FS:=z9t
noncomputable def vX:Mir:=cT! cY! z4g
@[simp] noncomputable def z1r:FS:=(bp! (fk! (a6! vm)) (z8n g6!))
noncomputable def z2M:FS:=z1r
noncomputable def vY:Mir:=kX cY! 1 z2M
@[simp] noncomputable def zbj:FS:=(yq 2 (zsL z2x o!))
@[simp] noncomputable def z4b:FS:=(zit (zdx 2 [(mZ!,qm),(m0!,vQ),(m1!,kg),(m2!,qr)] (cw! 1)) (yM 3 4))
@[simp] noncomputable def z4m:FS:=(xf (cF! ba! (kg! (jw (bI! (hv! 1))) (hy! 4 1 3) 3 (eIf (gP! (za6 r!) ba! o!) (eOp z9l (ax! 1 3) (ax! 1 2)) C!))))
noncomputable def z7j:FS:=(bh! zbj z4b z4m)
noncomputable def vb:Mir:=c3! [c8!,aB!,"deal",ha!,"divided"] z7j
@[simp] noncomputable def z05:FS:=(we (a6! vX))
@[simp] noncomputable def z0l:FS:=(we (cy! xn 1))
noncomputable def uL:FS:=(zx z05 z0l)
noncomputable def zW:Mir:=c3! dq! uL
@[simp] noncomputable def vE:FS:=(we (a6! vY))
@[simp] noncomputable def vJ:FS:=(we (cy! xN 1))
noncomputable def wf:FS:=(zx vE vJ)
noncomputable def zA:Mir:=kX dq! 2 wf
@[simp] noncomputable def z9Q:FS:=(we (cU! zW))
@[simp] noncomputable def z93:FS:=fNo
@[simp] noncomputable def z9E:FS:=(bp! (tOf (cy! xB 1)) z93)
noncomputable def z4n:FS:=(zx z9Q z9E)
noncomputable def wk:Mir:=c3! dq! z4n
@[simp] noncomputable def ziF:FS:=(we (cU! wk))
@[simp] noncomputable def ziI:FS:=(zit (cU! vb) (yM 2 3))
@[simp] noncomputable def zem:FS:=(yq 4 (pM! (lW! (z4W (cn! n! 3)) (fE! 1 2 a!) (yM 2 3) (kt! 2 (hz! 3 (ax! 0 1))))))
@[simp] noncomputable def zdN:FS:=(xf (eU! jO o! 4))
noncomputable def zhb:FS:=(zx ziF (bh! ziI zem zdN))
noncomputable def M_step:Mir:=c3! [c8!,aB!,ha!,qO!,"left"] zhb
@[simp] noncomputable def z7o:FS:=(we (cU! wk))
@[simp] noncomputable def z7C:FS:=(zit (cU! vb) (yM 2 3))
@[simp] noncomputable def z1A:FS:=(xf (pM! (lW! (z4W (cn! (a0! xH (hv! 1)) 3)) (fE! 0 2 a!) (yM 2 3) (du! jO (bd! (bd! (gu! H! n!) (uD (bI! (bd! (ax! 2 1) ba!)))) (e2! H! (gt! 1)))))))
noncomputable def z2y:FS:=(bh! z7o z7C z1A)
noncomputable def wX:Mir:=c3! [c8!,aB!,ha!,qO!] z2y
@[simp] noncomputable def zlV:FS:=(we (cU! zW))
@[simp] noncomputable def zcL:FS:=(yq 2 (z9W (cw! 1)))
@[simp] noncomputable def z96:FS:=(we (zcA H! (du! M_step (fy! 2 d1!))))
@[simp] noncomputable def zgS:FS:=(z1x (fk! (a0! xB (fy! 2 d1!))) z96)
@[simp] noncomputable def zfy:FS:=(xf H!)
noncomputable def zlo:FS:=(zx zlV (bh! zcL zgS zfy))
noncomputable def ziy:Mir:=c3! [c8!,aB!,"lots"] zlo
@[simp] noncomputable def zjm:FS:=(we (cU! zA))
noncomputable def zgW:FS:=(zx zjm (bh! (z0v zcL) (z0v zgS) (z0v zfy)))
noncomputable def X_run:Mir:=kX [c8!,aB!,"lots"] 2 zgW
@[simp] noncomputable def je:FS:=(xf (z1f (zT (gu! (z4I (cU! X_run)) d1!)) (ag! 0) cj! zX (cU! wX)))
noncomputable def kc:FS:=je
noncomputable def xF:Mir:=kX dq! 2 kc
@[simp] noncomputable def uK:FS:=(yq 2 (z4I (cU! xF)))
@[simp] noncomputable def z00:FS:=(xf (eU! xY (hv! 1) 2))
noncomputable def qD:FS:=(zx uK z00)
noncomputable def yP:Mir:=kX [c8!,aB!,nj!] 2 qD
@[simp] noncomputable def uH:FS:=(xf (df! (z4I (cU! yP)) d1!))
noncomputable def qg:FS:=uH
noncomputable def xb:Mir:=kX dq! 2 qg
@[simp] noncomputable def zcB:FS:=(xf (zaN (ze ya (aQ! n! ej!)) (eOp dEq (eU! xQ n! 0) H!)))
noncomputable def z33:FS:=zcB
noncomputable def wJ:Mir:=Mof [aB!,kF!,iQ!] 3 z33
@[simp] noncomputable def z4Z:FS:=(we (a6! xN))
@[simp] noncomputable def z4V:FS:=(xf (ze wJ (zb o! (aQ! n! (a6! z5q)))))
noncomputable def qf:FS:=(zx z4Z z4V)
noncomputable def yO:Mir:=kX [aB!,kF!] 2 qf
@[simp] noncomputable def z6I:FS:=(xf (a0! uV (cU! xb)))
noncomputable def ju:FS:=z6I
noncomputable def yX:Mir:=kX dq! 2 ju
@[simp] noncomputable def z4k:FS:=(xf (df! (zt (zT (cU! yX)) b9! cj! (hq! (eU! xQ n! 0) C!) n!) C!))
noncomputable def z1H:FS:=z4k
noncomputable def vt:Mir:=kX dq! 2 z1H
@[simp] noncomputable def kL:FS:=(xf (ax! 0 1))
@[simp] noncomputable def uG:FS:=(bp! (gP! dLt n! ej!) kL)
@[simp] noncomputable def z4C:FS:=(xf C!)
noncomputable def z0h:FS:=(zx uG z4C)
noncomputable def ug:Mir:=c3! [lC!,pl!] z0h
@[simp] noncomputable def z46:FS:=(yq 2 C!)
@[simp] noncomputable def z0T:FS:=(yq 2 (jF! 2 (hz! 3 (zd 4))))
@[simp] noncomputable def z0t:FS:=(z4J (z4W (cn! o! 1)) (yM 3 4) z0T)
@[simp] noncomputable def zb7:FS:=(xf H!)
noncomputable def z5U:FS:=(bh! z46 z0t zb7)
noncomputable def vO:Mir:=c3! [ed!,dV!,pm!,qP!,ol!] z5U
@[simp] noncomputable def z1v:FS:=(xf (eOp dEq (a0! yH (zt cN! [a!] (yh 0) (gP! dGt o! C!) o!)) ao!))
noncomputable def z2L:FS:=z1v
noncomputable def xt:Mir:=cT! [dW!] z2L
@[simp] noncomputable def zaH:FS:=(yq 1 C!)
@[simp] noncomputable def z0q:FS:=(yq 3 H!)
@[simp] noncomputable def z0Q:FS:=(zr8 1 3 (aQ! ba! (et! zdO 1 ba!)))
@[simp] noncomputable def z0c:FS:=(z1x (eg! 3 C!) z0Q)
@[simp] noncomputable def zay:FS:=(gx! cN! 2 (zx z0q z0c))
@[simp] noncomputable def zbD:FS:=(xf n!)
noncomputable def z6y:FS:=(bh! zaH zay zbD)
noncomputable def qa:Mir:=cT! [kH!,gf!,cv!,dV!] z6y
@[simp] noncomputable def zb9:FS:=(yq 2 (z9W zj))
@[simp] noncomputable def zan:FS:=(yq 4 C!)
@[simp] noncomputable def zbc:FS:=(yq 4 (jF! 4 (hz! 5 (zd 6))))
@[simp] noncomputable def zaG:FS:=(z4J (z4W (cn! ba! 1)) (yM 5 6) zbc)
@[simp] noncomputable def zbf:FS:=(we (zcA H! (zd 4)))
@[simp] noncomputable def zby:FS:=(gx! cN! 3 (bh! zan zaG zbf))
@[simp] noncomputable def zb2:FS:=(xf (pM! H!))
noncomputable def zc9:FS:=(bh! zb9 zby zb2)
noncomputable def z85:Mir:=z4X (c3! [jw!,kH!,gf!,gg!,pm!,ed!,dV!] zc9)
@[simp] noncomputable def z0L:FS:=(yq 2 (z9W zj))
@[simp] noncomputable def vn:FS:=(yq 4 C!)
@[simp] noncomputable def qk:FS:=(yq 4 (jF! 4 (hz! 5 (zd 6))))
@[simp] noncomputable def vz:FS:=(z4J (z4W (cn! ba! 1)) (yM 5 6) qk)
@[simp] noncomputable def wg:FS:=(we (zcA H! (zd 4)))
@[simp] noncomputable def z0J:FS:=(gx! cN! 3 (bh! vn vz wg))
@[simp] noncomputable def qe:FS:=(xf (pM! H!))
noncomputable def z1j:FS:=(bh! z0L z0J qe)
noncomputable def vj:Mir:=z4X (c3! ["_law_table_here",kH!,gf!,gg!,pm!,ed!,dV!] z1j)
@[simp] noncomputable def z1b:FS:=(xf (eB! (ek! 0) (ag! 0) 1 (eB! (ek! 0) b9! 1 (a0! zdd (et! dEq 0 n!)))))
noncomputable def z2t:FS:=z1b
noncomputable def xr:Mir:=cT! [fR!] z2t
@[simp] noncomputable def z4e:FS:=(xf (z9W (bI! (kt! 0 (eOp zbW je! (T! 18))))))
@[simp] noncomputable def qX:FS:=(bp! (gP! dGe o! (eOp zbW je! (T! 18))) z4e)
@[simp] noncomputable def zbA:FS:=(yq 1 C!)
@[simp] noncomputable def z0A:FS:=(yq 3 (eOp zdO (jf! (bd! (bd! (et! zdO 0 (T! pn!)) (jf! (T! 7919) H!)) ao!) (T! 48271)) (T! 2147483647)))
@[simp] noncomputable def z0k:FS:=(yq 3 (eOp zdO (bd! (bd! (hz! 3 ba!) (jf! (T! 69621) H!)) (T! 7)) (T! lD!)))
@[simp] noncomputable def z0B:FS:=(yq 1 (bd! (hz! 1 (T! lD!)) ba!))
@[simp] noncomputable def z48:FS:=(gx! (jw (bI! (T! 64))) 2 (bh! z0A z0k z0B))
@[simp] noncomputable def zbg:FS:=(xf (z9W (cw! 1)))
noncomputable def z6j:FS:=(zx qX (bh! zbA z48 zbg))
noncomputable def z0W:Mir:=cT! ["_law_cell",cv!,"_law_j",lE!] z6j
@[simp] noncomputable def z4D:FS:=(yq 2 ej!)
@[simp] noncomputable def z4L:FS:=(yq 3 (kg! (ek! 2) (fm! 0 1) 2 (du! z85 (kg! (zT n!) (ag! 2) 1 (gq! 1)))))
@[simp] noncomputable def z4y:FS:=(xf (eB! (ek! 2) (ag! 3) 1 (eB! cN! b9! 1 (gq! 1))))
noncomputable def z5D:FS:=(bh! z4D z4L z4y)
noncomputable def jk:Mir:=c3! [ed!,dV!,fR!,qQ!] z5D
@[simp] noncomputable def wQ:FS:=(yq 2 ej!)
@[simp] noncomputable def wS:FS:=(yq 3 (kg! (ek! 2) (fm! 0 1) 2 (du! vj (kg! (zT n!) (ag! 2) 1 (gq! 1)))))
@[simp] noncomputable def wP:FS:=(xf (eB! (ek! 2) (ag! 3) 1 (eB! cN! b9! 1 (gq! 1))))
noncomputable def qH:FS:=(bh! wQ wS wP)
noncomputable def wo:Mir:=c3! [ed!,dV!,fR!,qQ!] qH
@[simp] noncomputable def z7x:FS:=(xf (kQ (fK! (bV! jh!) (eC kY!) (eC jN!) (bV! gb!) zj)))
noncomputable def z8Y:FS:=z7x
noncomputable def qT:Mir:=Mof [] 0 z8Y
@[simp] noncomputable def jV:FS:=(yq 2 (hv! 1))
@[simp] noncomputable def uU:FS:=(yq 3 (a0! z35 (zt (z20 (cw! 1)) i9! (yM 0 1) (gP! dGt n! C!) (cF! n! o!))))
@[simp] noncomputable def jY:FS:=(yq 4 (df! (zt (ek! 2) b9! cj! (fa! (ax! 0 1) (a6! vy)) n!) C!))
@[simp] noncomputable def jL:FS:=(yq 5 (zfN jh! gb! (df! (gX! 3) ao!) C! o!))
@[simp] noncomputable def kE:FS:=(yq 5 (df! (zt (zT ba!) (dI! 4) (yM 1 2) (eg! 2 o!) H!) C!))
@[simp] noncomputable def wn:FS:=(bp! (fa! o! (eC kY!)) kE)
@[simp] noncomputable def jU:FS:=(yq 6 (a0! vy (zt (zT ba!) (dI! 4) (yM 1 2) (eg! 2 o!) n!)))
@[simp] noncomputable def jZ:FS:=(yq 5 (df! (zt (ek! 2) (hy! 6 4 1) (yh 3) (zkV (fa! (ax! 2 3) o!) (eg! 3 n!)) ba!) C!))
@[simp] noncomputable def wu:FS:=(bp! (fa! o! (eC jN!)) (zx jU jZ))
@[simp] noncomputable def ue:FS:=(yq 7 (zt (ek! 2) (ag! 5) cj! (eg! 1 o!) n!))
@[simp] noncomputable def z1t:FS:=(yq 7 (kQ (cw! 4)))
@[simp] noncomputable def xU:FS:=(bp! (gP! (za6 r!) o! (cF! (eC jN!) (eC kY!))) z1t)
@[simp] noncomputable def xS:FS:=(yq 8 (eOp zet (z9W (bI! C!)) H!))
@[simp] noncomputable def z1w:FS:=(z0D (zd 8) (zd 9) (eOp z9l (ax! 1 9) (ax! 1 5)))
@[simp] noncomputable def xO:FS:=(bp! (gP! dGt (ax! 1 5) C!) z1w)
@[simp] noncomputable def uu:FS:=(gx! (zT (zd 7)) 9 xO)
@[simp] noncomputable def xP:FS:=(yq 10 (lW! (z20 (cw! 1)) [b! 8,b! 1,b! 5,a!,a!] (yM 3 4) (kt! 4 (jf! (ax! 0 3) (ax! 1 2)))))
@[simp] noncomputable def wK:FS:=(yq 11 (z9W zj))
@[simp] noncomputable def wE:FS:=(yq 12 (z1f (ek! 2) (ag! 9) cj! zX (a0! zdd (et! dEq 0 n!))))
@[simp] noncomputable def wL:FS:=(z0D (zd 12) (zd 5) (bd! (ax! 12 5) (ax! 8 9)))
@[simp] noncomputable def z1y:FS:=(yq 12 (bd! (e2! (zd 12) ao!) (gu! (zd 12) ao!)))
@[simp] noncomputable def wH:FS:=(bp! (fa! o! (bV! gb!)) z1y)
@[simp] noncomputable def wM:FS:=(we (zcA (zd 11) (cy! zU 12)))
@[simp] noncomputable def xR:FS:=(gx! (ek! 2) 9 (zx wE (bh! wL wH wM)))
@[simp] noncomputable def z1o:FS:=(yq 10 (bd! (e2! (zd 10) ao!) (gu! (zd 10) ao!)))
@[simp] noncomputable def xM:FS:=(bp! (fa! o! (bV! gb!)) z1o)
@[simp] noncomputable def xT:FS:=(xf (cF! (cy! zU 10) (cy! zU 11)))
noncomputable def z4l:FS:=(bh! jV uU (dE! jY jL wn wu (dE! ue xU xS uu (dE! xP wK xR xM xT))))
noncomputable def qq:Mir:=z4X (c3! [fS!,dW!,fR!,"_law_order",nk!,om!,qR!,iR!,qS!,er!,on!,"_law_lines",gg!] z4l)
@[simp] noncomputable def z4B:FS:=(yq 2 (hv! 1))
@[simp] noncomputable def z4F:FS:=(yq 3 (a0! z35 (zt (z20 (cw! 1)) i9! (yM 0 1) (gP! dGt n! C!) (cF! n! o!))))
@[simp] noncomputable def z4S:FS:=(yq 4 (df! (zt (ek! 2) b9! cj! (fa! (ax! 0 1) (a6! vy)) n!) C!))
@[simp] noncomputable def z4E:FS:=(yq 5 (zfN jh! gb! (df! (gX! 3) ao!) C! o!))
@[simp] noncomputable def z4Q:FS:=(yq 5 (df! (zt (zT ba!) (dI! 4) (yM 1 2) (eg! 2 o!) H!) C!))
@[simp] noncomputable def z51:FS:=(bp! (fa! o! (eC kY!)) z4Q)
@[simp] noncomputable def z4N:FS:=(yq 6 (a0! vy (zt (zT ba!) (dI! 4) (yM 1 2) (eg! 2 o!) n!)))
@[simp] noncomputable def z4G:FS:=(yq 5 (df! (zt (ek! 2) (hy! 6 4 1) (yh 3) (zkV (fa! (ax! 2 3) o!) (eg! 3 n!)) ba!) C!))
@[simp] noncomputable def z4w:FS:=(bp! (fa! o! (eC jN!)) (zx z4N z4G))
@[simp] noncomputable def z3y:FS:=(yq 7 (zt (ek! 2) (ag! 5) cj! (eg! 1 o!) n!))
@[simp] noncomputable def z3d:FS:=(yq 7 (kQ (cw! 4)))
@[simp] noncomputable def z3r:FS:=(bp! (gP! (za6 r!) o! (cF! (eC jN!) (eC kY!))) z3d)
@[simp] noncomputable def z3E:FS:=(yq 8 (eOp zet (z9W (bI! C!)) H!))
@[simp] noncomputable def z37:FS:=(z0D (zd 8) (zd 9) (eOp z9l (ax! 1 9) (ax! 1 5)))
@[simp] noncomputable def z3i:FS:=(bp! (gP! dGt (ax! 1 5) C!) z37)
@[simp] noncomputable def z3q:FS:=(gx! (zT (zd 7)) 9 z3i)
@[simp] noncomputable def z3l:FS:=(yq 10 (lW! (z20 (cw! 1)) [b! 8,b! 1,b! 5,a!,a!] (yM 3 4) (kt! 4 (jf! (ax! 0 3) (ax! 1 2)))))
@[simp] noncomputable def z39:FS:=(yq 11 (z9W zj))
@[simp] noncomputable def z3o:FS:=(yq 12 (z1f (ek! 2) (ag! 9) cj! zX (a0! zdd (et! dEq 0 n!))))
@[simp] noncomputable def z3h:FS:=(z0D (zd 12) (zd 5) (bd! (ax! 12 5) (ax! 8 9)))
@[simp] noncomputable def z3B:FS:=(yq 12 (bd! (e2! (zd 12) ao!) (gu! (zd 12) ao!)))
@[simp] noncomputable def z2X:FS:=(bp! (fa! o! (bV! gb!)) z3B)
@[simp] noncomputable def z2Z:FS:=(we (zcA (zd 11) (cy! zU 12)))
@[simp] noncomputable def z30:FS:=(gx! (ek! 2) 9 (zx z3o (bh! z3h z2X z2Z)))
@[simp] noncomputable def z3k:FS:=(yq 10 (bd! (e2! (zd 10) ao!) (gu! (zd 10) ao!)))
@[simp] noncomputable def z3z:FS:=(bp! (fa! o! (bV! gb!)) z3k)
@[simp] noncomputable def z3G:FS:=(xf (cF! (cy! zU 10) (cy! zU 11)))
noncomputable def z5R:FS:=(bh! z4B z4F (dE! z4S z4E z51 z4w (dE! z3y z3r z3E z3q (dE! z3l z39 z30 z3z z3G))))
noncomputable def z1l:Mir:=z4X (c3! [fS!,dW!,fR!,"_law_order",nk!,om!,qR!,iR!,qS!,er!,on!,kI!,gg!] z5R)
@[simp] noncomputable def z2N:FS:=(yq 2 (eOp zdO (gX! 0) n!))
@[simp] noncomputable def jP:FS:=(z0D o! C! (eOp z9l (gX! 0) n!))
@[simp] noncomputable def z91:FS:=(xf H!)
noncomputable def z4c:FS:=(bh! z2N jP z91)
noncomputable def zB:Mir:=c3! [fd!,po!,gf!] z4c
@[simp] noncomputable def z7F:FS:=(xf (zaN (eIs eo! o!) (zra (pW! o!))))
noncomputable def z9o:FS:=z7F
noncomputable def wj:Mir:=cT! [hL!] z9o
@[simp] noncomputable def vg:FS:=(xf (zaN (oM! o!) (zaN (eOp dEq ej! n!) (a0! zfs (kg! cN! [a!] 0 (a6! wj))))))
noncomputable def vV:FS:=vg
noncomputable def yw:Mir:=c3! [hL!,if!] vV
@[simp] noncomputable def z6p:FS:=(xf (eC cJ!))
@[simp] noncomputable def xq:FS:=(bp! (fOr (fk! (oM! o!)) (gP! (za6 c!) ej! (uD (zb (T! 2) (aQ! (T! 3) (T! 4)))))) z6p)
@[simp] noncomputable def z73:FS:=(xf (eC cJ!))
@[simp] noncomputable def yE:FS:=(bp! (fOr (fk! (cy! wj 1)) (gP! dLt n! C!)) z73)
@[simp] noncomputable def wc:FS:=(gx! cN! 1 yE)
@[simp] noncomputable def vq:FS:=(xf (eOp dGt (a6! vy) C!))
noncomputable def ua:FS:=(bh! xq wc vq)
noncomputable def yz:Mir:=cT! [hL!,cv!] ua
@[simp] noncomputable def z0P:FS:=(yq 1 (bd! (T! 2) (du! zB (T! 3))))
@[simp] noncomputable def z0H:FS:=(yq 2 (df! (kQ (fK! (T! 13) (T! ft!) (eOp zbW je! (T! 6)) (eOp zbW je! (T! 30)) (aQ! (T! 3) (T! 60)))) (du! zB (T! 6))))
@[simp] noncomputable def z0C:FS:=(yq 3 (du! zB (T! 4)))
@[simp] noncomputable def z0N:FS:=(yq 4 (z9W zj))
@[simp] noncomputable def qQ:FS:=(yq 6 (bd! (du! zB H!) ao!))
@[simp] noncomputable def jd:FS:=(we (zcA (zd 4) (hz! 6 (a0! zdd (eOp dGe (du! zB (T! 4)) ba!)))))
@[simp] noncomputable def qL:FS:=(gx! (ek! 1) 5 (zx qQ jd))
@[simp] noncomputable def z3J:FS:=(z0D (zd 4) (cU! zB) (bd! ao! (du! zB H!)))
@[simp] noncomputable def qU:FS:=(bp! (fa! (cy! vy 4) C!) z3J)
@[simp] noncomputable def kr:FS:=(yq 7 (bd! ao! (du! zB (T! 12))))
@[simp] noncomputable def z27:FS:=(z0D (zd 4) (cU! zB) (fy! 4 (cU! zB)))
@[simp] noncomputable def uY:FS:=(bp! (fa! (du! zB (T! 3)) C!) z27)
@[simp] noncomputable def z28:FS:=(z0D (zd 4) C! ao!)
@[simp] noncomputable def uW:FS:=(bp! (fa! (cy! vy 4) C!) z28)
@[simp] noncomputable def z2I:FS:=(xf (eB! (zT (zd 4)) (ag! 7) 1 (hz! 1 o!)))
noncomputable def z6r:FS:=(zx z0P (dE! z0H z0C z0N qL (dE! qU kr uY uW z2I)))
noncomputable def z13:Mir:=z4X (cT! [fd!,fR!,po!,"_law_thin",kH!,er!,cv!,lE!] z6r)
@[simp] noncomputable def kK:FS:=(yq 2 (kQ (zb (zlz n!) (fK! (et! zkf 1 (bV! " ")) (zuy n! (yt ao!)) (et! zkf 1 (bV! "s")) (bV! "") (fK! (eC aJ!) (T! 3) (uD (cw! 1)) (kQ (cw! 1)) (aQ! (eC ew!) (eC .dct)))))))
@[simp] noncomputable def kT:FS:=(xf (fy! 2 (du! zB (T! 11))))
noncomputable def z0f:FS:=(zx kK kT)
noncomputable def um:Mir:=c3! [fd!,fS!,iR!] z0f
@[simp] noncomputable def z43:FS:=(yq 1 (kQ (fK! (eC aJ!) (eC ew!) (eC cJ!) d1! (fK! C! (T! 7) (eOp zbW je! (T! 30)) (bV! "") (fK! (bV! "1:0") (uD zj) (cF! C! C!) (uD (bI! ao!)) (aQ! (kQ (aQ! ao! C!)) (eC .dct)))))))
@[simp] noncomputable def z3K:FS:=(xf (df! (jF! 1 (kQ (aQ! (cF! (cF! ao! C!) (cF! C! ao!)) (cF! (eC ew!) (T! 2))))) (du! zB (T! 16))))
noncomputable def z75:FS:=(zx z43 z3K)
noncomputable def vK:Mir:=cT! [fd!,iR!] z75
@[simp] noncomputable def z0b:FS:=(yq 2 (z9W (cw! 1)))
@[simp] noncomputable def z0o:FS:=(yq 3 (z9W zj))
@[simp] noncomputable def jb:FS:=(zit (du! qq (fy! 2 d1!)) (yM 4 5))
@[simp] noncomputable def qJ:FS:=(we (zcA H! (zd 4)))
@[simp] noncomputable def ja:FS:=(we (zcA ba! (zd 5)))
@[simp] noncomputable def z4r:FS:=(z1x (fk! (a0! xt (fy! 2 d1!))) (bh! jb qJ ja))
@[simp] noncomputable def z4s:FS:=(xf (cF! H! ba!))
noncomputable def z6V:FS:=(zx z0b (bh! z0o z4r z4s))
noncomputable def z0U:Mir:=c3! [fS!,dW!,pp!,pq!,on!,jw!] z6V
@[simp] noncomputable def z7a:FS:=(yq 2 (z9W (cw! 1)))
@[simp] noncomputable def z6b:FS:=(yq 3 (z9W zj))
@[simp] noncomputable def z7g:FS:=(zit (du! z1l (fy! 2 d1!)) (yM 4 5))
@[simp] noncomputable def z5I:FS:=(we (zcA H! (zd 4)))
@[simp] noncomputable def z61:FS:=(we (zcA ba! (zd 5)))
@[simp] noncomputable def z6c:FS:=(z1x (fk! (a0! xt (fy! 2 d1!))) (bh! z7g z5I z61))
@[simp] noncomputable def z5E:FS:=(xf (cF! H! ba!))
noncomputable def z7A:FS:=(zx z7a (bh! z6b z6c z5E))
noncomputable def km:Mir:=c3! [fS!,dW!,pp!,pq!,on!,jw!] z7A
@[simp] noncomputable def z95(Mr:Mir):FS:=(xf (eC cJ!))
@[simp] noncomputable def z2S(Mr:Mir):FS:=(bp! (fOr (hq! (eIs ea! n!) (eIs ea! o!)) (hq! (oM! n!) (oM! o!))) (z95 Mr))
@[simp] noncomputable def jX(Mr:Mir):FS:=(xf (zaN (eOp dEq ej! (hv! 1)) (a0! zfs (lW! (z4W (cn! o! 1)) i9! (yM 0 1) (cU! Mr)))))
@[simp] noncomputable def uR(Mr:Mir):FS:=(bp! (tOf (zsr ea! cV! n!)) (zx (z2S Mr) (jX Mr)))
@[simp] noncomputable def kB(Mr:Mir):FS:=(xf (zaN (et! dEq 0 n!) (eOp dEq (pW! o!) (pW! n!))))
@[simp] noncomputable def ky(Mr:Mir):FS:=(bp! (fOr (gP! dIs n! (eC aJ!)) (fOr (tOf (pW! n!)) (tOf (eIs gc! n!)))) (kB Mr))
@[simp] noncomputable def z2m(Mr:Mir):FS:=(xf (zaN (a6! wj) (et! dEq 0 n!)))
noncomputable def jc(Mr:Mir):FS:=(bh! (uR Mr) (ky Mr) (z2m Mr))
def zG:Nat->Mir
 | 0=>λ_ _=>.no | k+1=>c3! [gf!,mi!] (jc (zG k))
noncomputable def kh:Mir:=zG 5
@[simp] noncomputable def kq:FS:=(yq 2 (du! zB (hv! 1)))
@[simp] noncomputable def kF:FS:=(yq 3 (kQ (fK! (bd! (ax! 1 2) ao!) (eOp z7r (ax! 1 2) ao!) (eOp z7r C! (ax! 1 2)) C! (fK! (eC ew!) (eC aJ!) (bV! "1") (uD (bI! ao!)) (aQ! (eOp zbW je! (T! 30)) (fy! 1 (kt! 2 ao!)))))))
@[simp] noncomputable def jS:FS:=(yq 3 (fy! 3 (du! zB je!)))
@[simp] noncomputable def z23:FS:=(yq 4 (kQ (fK! (bd! (bd! (gu! n! H!) (uD (cw! 3))) (e2! n! (gt! 2))) (bd! (bd! (gu! n! H!) (uD (cw! 3))) (e2! n! (gt! 2))) (bd! (gu! n! H!) (e2! n! (gt! 2))) (cy! z76 1) zj)))
@[simp] noncomputable def kA:FS:=(yq 4 (jF! 4 (kQ (fK! (bd! (bd! (gu! n! H!) (uD (bI! C!))) (e2! n! H!)) (zq9 n!) (jF! 1 n!) (eOp zga (uD (bI! C!)) (hv! 1)) (aQ! (a6! vK) (uD (cw! 1)))))))
@[simp] noncomputable def z2c:FS:=(xf (fy! 4 (du! zB je!)))
noncomputable def z49:FS:=(zx kq (dE! kF jS z23 kA z2c))
noncomputable def xh:Mir:=c3! [fd!,pr!,eQ!,"_law_odd_here",iR!] z49
end Pg
set_option maxRecDepth 1000000
set_option maxHeartbeats 4000000
namespace Pm
noncomputable abbrev Tb:=ff!
noncomputable def dot(r v:i!):Int:=(kJ! (λa b=>a*b) r v).sum
noncomputable def mv(T:Tb)(v:i!):i!:=oo! (λr=>eD! r)
noncomputable def ye(T:Tb):Tb:=aR! br! (λj=>oo! (λr=>cL! j))
noncomputable def qV(A B:Tb):Tb:=ye ((ye B).map (mv A))
noncomputable def z1T(T:Tb)(i j:Nat):Tb:=(T.take i++T.drop (i+1)).map λr=>qT! j++n4! (j+1)
noncomputable def sg(i j:Nat):Int:=am! ((i+j) % 2=0) 1 (-1)
def det:Nat->Tb->Int
 | 0,_=>0 | k+1,T=>ai! br! 1 (bj! (jK! 0) 0) (aR! br! (λj=>sg 0 j*bj! (jK! 0) j*det k (e9! 0 j))).sum
noncomputable def back(T:Tb):Tb:=aR! br! (λi=>aR! br! (λj=>eE! T*sg i j*eE! (e9! j i)))
noncomputable def one(n:Nat):Tb:=aR! n (λi=>aR! n (λj=>ai! i j 1 0))
structure Tab(n:Nat)(T:Tb):g! where
 len:br!=n
 row:∀r∈T,aK!=n
theorem z8W{α:bL!}{l:ex!}(h:j0!=2):∃a b,l=[a,b]:=by match l,h with | [a,b],_=>exact aV! a b rfl
theorem z7s{α:bL!}{l:ex!}(h:j0!=3):∃a b c,l=[a,b,c]:=by match l,h with | [a,b,c],_=>exact ck! a b c rfl
theorem z6f{α:bL!}{l:ex!}(h:j0!=4):∃a b c d,l=[a,b,c,d]:=by match l,h with | [a,b,c,d],_=>exact⟨a,b,c,d,rfl⟩
theorem zde(h:Tab 2 T):∃a b c d,T=[[a,b],[c,d]]:=by
 obtain⟨r,q,rfl⟩:=z8W h.len;obtain⟨a,b,rfl⟩:=z8W (jx! r (by simp));obtain⟨c,d,rfl⟩:=z8W (jx! q (by simp));exact⟨a,b,c,d,rfl⟩
theorem zdK(h:Tab 3 T):∃a b c d e f g i j,T=[[a,b,c],[d,e,f],[g,i,j]]:=by
 obtain⟨r,q,p,rfl⟩:=z7s h.len;obtain⟨a,b,c,rfl⟩:=z7s (jx! r (by simp));obtain⟨d,e,f,rfl⟩:=z7s (jx! q (by simp));obtain⟨g,i,j,rfl⟩:=z7s (jx! p (by simp));exact⟨a,b,c,d,e,f,g,i,j,rfl⟩
theorem zdt(h:Tab 4 T):∃a b c d e f g i j k l m n o p q,T=[[a,b,c,d],[e,f,g,i],[j,k,l,m],[n,o,p,q]]:=by
 obtain⟨r1,r2,r3,r4,rfl⟩:=z6f h.len;obtain⟨a,b,c,d,rfl⟩:=z6f (jx! r1 (by simp));obtain⟨e,f,g,i,rfl⟩:=z6f (jx! r2 (by simp));obtain⟨j,k,l,m,rfl⟩:=z6f (jx! r3 (by simp));obtain⟨n,o,p,q,rfl⟩:=z6f (jx! r4 (by simp));exact⟨a,b,c,d,e,f,g,i,j,k,l,m,n,o,p,q,rfl⟩
theorem znE(a b c d A B C D:Int):qV [[a,b],[c,d]] [[A,B],[C,D]]=[[a*A+(b*C+0),a*B+(b*D+0)],[c*A+(d*C+0),c*B+(d*D+0)]]:=rfl
theorem zmy(a b c d e f g i j A B C D E F G I J:Int):qV [[a,b,c],[d,e,f],[g,i,j]] [[A,B,C],[D,E,F],[G,I,J]]= [[a*A+(b*D+(c*G+0)),a*B+(b*E+(c*I+0)),a*C+(b*F+(c*J+0))],[d*A+(e*D+(f*G+0)),d*B+(e*E+(f*I+0)),d*C+(e*F+(f*J+0))],[g*A+(i*D+(j*G+0)),g*B+(i*E+(j*I+0)),g*C+(i*F+(j*J+0))]]:=rfl
theorem zsg(a b c d e f g i j k l m n o p q A B C D E F G I J K L M N Oo P Q:Int):qV [[a,b,c,d],[e,f,g,i],[j,k,l,m],[n,o,p,q]] [[A,B,C,D],[E,F,G,I],[J,K,L,M],[N,Oo,P,Q]]= [[a*A+(b*E+(c*J+(d*N+0))),a*B+(b*F+(c*K+(d*Oo+0))),a*C+(b*G+(c*L+(d*P+0))),a*D+(b*I+(c*M+(d*Q+0)))], [e*A+(f*E+(g*J+(i*N+0))),e*B+(f*F+(g*K+(i*Oo+0))),e*C+(f*G+(g*L+(i*P+0))),e*D+(f*I+(g*M+(i*Q+0)))], [j*A+(k*E+(l*J+(m*N+0))),j*B+(k*F+(l*K+(m*Oo+0))),j*C+(k*G+(l*L+(m*P+0))),j*D+(k*I+(l*M+(m*Q+0)))], [n*A+(o*E+(p*J+(q*N+0))),n*B+(o*F+(p*K+(q*Oo+0))),n*C+(o*G+(p*L+(q*P+0))),n*D+(o*I+(p*M+(q*Q+0)))]]:=rfl
noncomputable def d2(a b c d:Int):Int:=a*d-b*c
noncomputable def d3(a b c d e f g h i:Int):Int:=a*d2 e f h i-b*d2 d f g i+c*d2 d e g h
noncomputable def d4(a b c d e f g h i j k l m n o p:Int):Int:=a*d3 f g h j k l n o p-b*d3 e g h i k l m o p+c*d3 e f h i j l m n p-d*d3 e f g i j k m n o
theorem za8(k:Nat)(a b c d:Int):det (k+2) [[a,b],[c,d]]=d2 a b c d:=by
 show (1*a*d+(-1*b*c+0))=_;unfold d2;grind
theorem z80(k:Nat)(a b c d e f g h i:Int):det (k+3) [[a,b,c],[d,e,f],[g,h,i]]=aP! d e f g h i:=by
 refine a4! (show _=1*a*det (k+2) [[e,f],[h,i]]+(-1*b*det (k+2) [[d,f],[g,i]]+(1*c*det (k+2) [[d,e],[g,h]]+0)) from by with_unfolding_all rfl) ?_;rw[za8,za8,za8,d3];lia
theorem jK(k:Nat)(a b c d e f g h i j l m n o p q:Int):det (k+4) [[a,b,c,d],[e,f,g,h],[i,j,l,m],[n,o,p,q]]=d4 a b c d e f g h i j l m n o p q:=by
 refine a4! (show _=1*a*det (k+3) [[f,g,h],[j,l,m],[o,p,q]]+(-1*b*det (k+3) [[e,g,h],[i,l,m],[n,p,q]]+(1*c*det (k+3) [[e,f,h],[i,j,m],[n,o,q]]+(-1*d*det (k+3) [[e,f,g],[i,j,l],[n,o,p]]+0))) from by with_unfolding_all rfl) ?_;rw[z80,z80,z80,z80,d4];grind
theorem zrn(a b c d:Int):gL! [[a,b],[c,d]]=[[d2 a b c d*d,-(d2 a b c d*b)],[-(d2 a b c d*c),d2 a b c d*a]]:=by
 have m1:∀x:Int,eE! [[x]]=x:=λx=>rfl;simp[back,List.range,List.range.loop,z1T,sg,za8,m1,Int.neg_mul]
theorem zsc(a b c d e f g h i:Int):gL! [[a,b,c],[d,e,f],[g,h,i]]= [[aP! d e f g h i*d2 e f h i,-(aP! d e f g h i*d2 b c h i),aP! d e f g h i*d2 b c e f], [-(aP! d e f g h i*d2 d f g i),aP! d e f g h i*d2 a c g i,-(aP! d e f g h i*d2 a c d f)], [aP! d e f g h i*d2 d e g h,-(aP! d e f g h i*d2 a b g h),aP! d e f g h i*d2 a b d e]]:=by simp[back,List.range,List.range.loop,z1T,sg,za8,z80,Int.neg_mul]
theorem zrH(a b c d e f g h i j l m n o p q:Int):gL! [[a,b,c,d],[e,f,g,h],[i,j,l,m],[n,o,p,q]]= let t:=d4 a b c d e f g h i j l m n o p q;[[t*d3 f g h j l m o p q,-(t*d3 b c d j l m o p q),t*d3 b c d f g h o p q,-(t*d3 b c d f g h j l m)], [-(t*d3 e g h i l m n p q),t*cD! c d i l m n p q,-(t*cD! c d e g h n p q),t*cD! c d e g h i l m], [t*d3 e f h i j m n o q,-(t*cE! d i j m n o q),t*cE! d e f h n o q,-(t*cE! d e f h i j m)], [-(t*d3 e f g i j l n o p),t*aP! i j l n o p,-(t*aP! e f g n o p),t*aP! e f g i j l]]:=by simp[back,List.range,List.range.loop,z1T,sg,z80,jK,Int.neg_mul]
theorem zvi(a b e f g h x y:Int):(a*e+(b*g+0))*x+((a*f+(b*h+0))*y+0)=a*(e*x+(f*y+0))+(b*(g*x+(h*y+0))+0):=by grind
theorem zuH(a b c e f g h i j k l m x y z:Int):(a*e+(b*h+(c*k+0)))*x+((a*f+(b*i+(c*l+0)))*y+((a*g+(b*j+(c*m+0)))*z+0))=a*(e*x+(f*y+(g*z+0)))+(b*(h*x+(i*y+(j*z+0)))+(c*(k*x+(l*y+(m*z+0)))+0)):=by grind
theorem zuE(a b c d e f g h i j k l m n o p q r s t x y z u:Int):(a*e+(b*i+(c*m+(d*q+0))))*x+((a*f+(b*j+(c*n+(d*r+0))))*y+((a*g+(b*k+(c*o+(d*s+0))))*z+((a*h+(b*l+(c*p+(d*t+0))))*u+0)))= a*(e*x+(f*y+(g*z+(h*u+0))))+(b*(i*x+(j*y+(k*z+(l*u+0))))+(c*(m*x+(n*y+(o*z+(p*u+0))))+(d*(q*x+(r*y+(s*z+(t*u+0))))+0))):=by grind
theorem zu{α:bL!}{a b:α}{s t:ex!}(h:a=b)(k:s=t):a::s=b::t:=h ▸ k ▸ rfl
theorem zfD(hn:n=2\/n=3\/n=4)(ha:h7!)(hb:eW! B)(hv:I!=n):mv (qV A B) v=mv A (mv B v):=by
 rcases hn with rfl | rfl | rfl
 ·obtain⟨a,b,c,d,rfl⟩:=zde ha;obtain⟨e,f,g,h,rfl⟩:=zde hb;obtain⟨x,y,rfl⟩:=z8W hv;exact have v:=λa b=>zvi a b e f g h x y;dL! (v a b) (v c d)
 ·obtain⟨a,b,c,d,e,f,g,h,i,rfl⟩:=zdK ha;obtain⟨j,k,l,m,n,o,p,q,r,rfl⟩:=zdK hb;obtain⟨x,y,z,rfl⟩:=z7s hv;exact have v:=λa b c=>zuH a b c j k l m n o p q r x y z;zu (v a b c) (dL! (v d e f) (v g h i))
 ·obtain⟨a,b,c,d,e,f,g,h,i,j,k,l,m,n,o,p,rfl⟩:=zdt ha;obtain⟨a',b',c',d',e',f',g',h',i',j',k',l',m',n',o',p',rfl⟩:=zdt hb;obtain⟨x,y,z,u,rfl⟩:=z6f hv;exact have v:=λa b c d=>zuE a b c d a' b' c' d' e' f' g' h' i' j' k' l' m' n' o' p' x y z u;hR! (v a b c d) (v e f g h) (dL! (v i j k l) (v m n o p))
theorem zbx(hn:n=2\/n=3\/n=4)(h:h7!):ye (ye A)=A:=by
 rcases hn with rfl | rfl | rfl;·obtain⟨a,b,c,d,rfl⟩:=zde h;rfl
 ·obtain⟨a,b,c,d,e,f,g,h,i,rfl⟩:=zdK h;rfl
 ·obtain⟨a,b,c,d,e,f,g,h,i,j,k,l,m,n,o,p,rfl⟩:=zdt h;rfl
theorem assoc(hn:n=2\/n=3\/n=4)(ha:h7!)(hb:eW! B)(hc:eW! C):qV (qV A B) C=qV A (qV B C):=by
 have tc:∀x∈ye C,x.length=n:=ae! (by
  obtain⟨j,_,rfl⟩:=iZ!;rw[_z,hc.len])
 have tx:eW! ((ye C).map (mv B)):=⟨by rw[_z,ye,_z,_c8,hc.len],c9! (by
  obtain⟨x,_,rfl⟩:=jI!;rw[mv,_z,hb.len])⟩;show ye ((ye C).map (mv (qV A B)))=ye ((ye (ye ((ye C).map (mv B)))).map (mv A));rw[zbx hn tx,_ae];exact _at ye (_ao (ae! (zfD hn ha hb (tc x hx))))
end Pm
set_option maxRecDepth 1000000
set_option maxHeartbeats 40000000
namespace Pm
theorem dm2(a b c d A B C D:Int):d2 (a*A+(b*C+0)) (a*B+(b*D+0)) (c*A+(d*C+0)) (c*B+(d*D+0))=d2 a b c d*d2 A B C D:=by simp only[d2];grind
theorem dm3(a b c d e f g i j A B C D E F G I J:Int):d3 (a*A+(b*D+(c*G+0))) (a*B+(b*E+(c*I+0))) (a*C+(b*F+(c*J+0))) (d*A+(e*D+(f*G+0))) (d*B+(e*E+(f*I+0))) (d*C+(e*F+(f*J+0))) (g*A+(i*D+(j*G+0))) (g*B+(i*E+(j*I+0))) (g*C+(i*F+(j*J+0)))=aP! d e f g i j*d3 A B C D E F G I J:=by simp only[d3,d2];grind
theorem dm4(a b c d e f g i j k l m n o p q A B C D E F G I J K L M N Oo P Q:Int):d4 (a*A+(b*E+(c*J+(d*N+0)))) (a*B+(b*F+(c*K+(d*Oo+0)))) (a*C+(b*G+(c*L+(d*P+0)))) (a*D+(b*I+(c*M+(d*Q+0)))) (e*A+(f*E+(g*J+(i*N+0)))) (e*B+(f*F+(g*K+(i*Oo+0)))) (e*C+(f*G+(g*L+(i*P+0)))) (e*D+(f*I+(g*M+(i*Q+0)))) (j*A+(k*E+(l*J+(m*N+0)))) (j*B+(k*F+(l*K+(m*Oo+0)))) (j*C+(k*G+(l*L+(m*P+0)))) (j*D+(k*I+(l*M+(m*Q+0)))) (n*A+(o*E+(p*J+(q*N+0)))) (n*B+(o*F+(p*K+(q*Oo+0)))) (n*C+(o*G+(p*L+(q*P+0)))) (n*D+(o*I+(p*M+(q*Q+0))))=d4 a b c d e f g i j k l m n o p q*d4 A B C D E F G I J K L M N Oo P Q:=by simp only[d4,d3,d2];grind
theorem zdL(hn:n=2\/n=3\/n=4)(ha:h7!)(hb:eW! B):eE! (qV A B)=eE! A*eE! B:=by
 rcases hn with rfl | rfl | rfl
 ·obtain⟨a,b,c,d,rfl⟩:=zde ha;obtain⟨e,f,g,h,rfl⟩:=zde hb;rw[znE,za8,za8,za8,dm2]
 ·obtain⟨a1,a2,a3,a4,a5,a6,a7,a8,a9,rfl⟩:=zdK ha;obtain⟨b1,b2,b3,b4,b5,b6,b7,b8,b9,rfl⟩:=zdK hb;rw[zmy,z80 1,z80 1,z80 1,dm3]
 ·obtain⟨a1,a2,a3,a4,a5,a6,a7,a8,a9,a10,a11,a12,a13,ii,ij,lA,rfl⟩:=zdt ha;obtain⟨b1,b2,b3,b4,b5,b6,b7,b8,b9,nZ,oa,oh,oj,om,oo,oq,rfl⟩:=zdt hb;rw[zsg,jK 0,jK 0,jK 0,dm4]
theorem zr6:one 2=[[1,0],[0,1]]:=rfl
theorem zqX:one 3=[[1,0,0],[0,1,0],[0,0,1]]:=rfl
theorem zqc:one 4=[[1,0,0,0],[0,1,0,0],[0,0,1,0],[0,0,0,1]]:=rfl
theorem zfT(hn:n=2\/n=3\/n=4)(hv:I!=n):mv bu! v=v:=by
 rcases hn with rfl | rfl | rfl
 ·obtain⟨x,y,rfl⟩:=z8W hv;rw[zr6];simp[mv,dot]
 ·obtain⟨x,y,z,rfl⟩:=z7s hv;rw[zqX];simp[mv,dot]
 ·obtain⟨x,y,z,u,rfl⟩:=z6f hv;rw[zqc];simp[mv,dot]
theorem zun(a b:Int):a*1+(b*0+0)=a/\a*0+(b*1+0)=b:=by simp
theorem zuq(a b c:Int):a*1+(b*0+(c*0+0))=a/\a*0+(b*1+(c*0+0))=b/\a*0+(b*0+(c*1+0))=c:=by simp
theorem zu8(a b c d:Int):a*1+(b*0+(c*0+(d*0+0)))=a/\a*0+(b*1+(c*0+(d*0+0)))=b/\a*0+(b*0+(c*1+(d*0+0)))=c/\a*0+(b*0+(c*0+(d*1+0)))=d:=by simp
theorem z5d(hn:n=2\/n=3\/n=4)(ha:h7!):qV bu! A=A/\qV A bu!=A:=by
 constructor
 ·show ye ((ye A).map (mv bu!))=A;rw[show (ye A).map (mv bu!)=ye A from a4! (_ao (ae! (by
   obtain⟨j,_,rfl⟩:=iZ!;exact zfT hn (by rw[_z,ha.len])))) (List.map_id _)];exact zbx hn ha
 ·rcases hn with rfl | rfl | rfl
  ·obtain⟨a,b,c,d,rfl⟩:=zde ha;exact have u:=λa b=>(have h:=zun a b;dL! h.1 h.2);dL! (u a b) (u c d)
  ·obtain⟨a,b,c,d,e,f,g,h,i,rfl⟩:=zdK ha;exact have u:=λa b c=>(have h:=zuq a b c;zu h.1 (dL! h.2.1 h.2.2));zu (u a b c) (dL! (u d e f) (u g h i))
  ·obtain⟨a,b,c,d,e,f,g,h,i,j,k,l,m,n,o,p,rfl⟩:=zdt ha;exact have u:=λa b c d=>(have h:=zu8 a b c d;hR! h.1 h.2.1 (dL! h.2.2.1 h.2.2.2));hR! (u a b c d) (u e f g h) (dL! (u i j k l) (u m n o p))
theorem znw(hn:n=2\/n=3\/n=4):eE! bu!=1:=by
 rcases hn with rfl | rfl | rfl;·rfl
 ·rfl
 ·rfl
theorem bm2(a b c d t:Int)(ht:t=d2 a b c d)(h:t*t=1):qV [[t*d,-(t*b)],[-(t*c),t*a]] [[a,b],[c,d]]=one 2/\qV [[a,b],[c,d]] [[t*d,-(t*b)],[-(t*c),t*a]]=one 2:=by
 simp only[d2]at ht;rw[zr6,znE,znE];and_intros<;>grind
end Pm
set_option maxRecDepth 1000000
set_option maxHeartbeats 40000000
namespace Pm
theorem zt1(a b c d e f g h i:Int):d2 e f h i*a-d2 b c h i*d+d2 b c e f*g=aP! d e f g h i:=by simp only[d3,d2]<;>grind
theorem zsP(a b c d e f g h i:Int):d2 e f h i*b-d2 b c h i*e+d2 b c e f*h=0:=by simp only[d2]<;>grind
theorem zt4(a b c d e f g h i:Int):d2 e f h i*c-d2 b c h i*f+d2 b c e f*i=0:=by simp only[d2]<;>grind
theorem zrC(a b c d e f g h i:Int):-d2 d f g i*a+d2 a c g i*d-d2 a c d f*g=0:=by simp only[d2]<;>grind
theorem zro(a b c d e f g h i:Int):-d2 d f g i*b+d2 a c g i*e-d2 a c d f*h=aP! d e f g h i:=by simp only[d3,d2]<;>grind
theorem zsM(a b c d e f g h i:Int):-d2 d f g i*c+d2 a c g i*f-d2 a c d f*i=0:=by simp only[d2]<;>grind
theorem zsD(a b c d e f g h i:Int):d2 d e g h*a-d2 a b g h*d+d2 a b d e*g=0:=by simp only[d2]<;>grind
theorem ztE(a b c d e f g h i:Int):d2 d e g h*b-d2 a b g h*e+d2 a b d e*h=0:=by simp only[d2]<;>grind
theorem zso(a b c d e f g h i:Int):d2 d e g h*c-d2 a b g h*f+d2 a b d e*i=aP! d e f g h i:=by simp only[d3,d2]<;>grind
theorem zrv(a b c d e f g h i:Int):a*d2 e f h i-b*d2 d f g i+c*d2 d e g h=aP! d e f g h i:=by rfl<;>grind
theorem zrl(a b c d e f g h i:Int):-a*d2 b c h i+b*d2 a c g i-c*d2 a b g h=0:=by simp only[d2]<;>grind
theorem ztA(a b c d e f g h i:Int):a*d2 b c e f-b*d2 a c d f+c*d2 a b d e=0:=by simp only[d2]<;>grind
theorem ztn(a b c d e f g h i:Int):d*d2 e f h i-e*d2 d f g i+f*d2 d e g h=0:=by simp only[d2]<;>grind
theorem zrB(a b c d e f g h i:Int):-d*d2 b c h i+e*d2 a c g i-f*d2 a b g h=aP! d e f g h i:=by simp only[d3,d2]<;>grind
theorem zsH(a b c d e f g h i:Int):d*d2 b c e f-e*d2 a c d f+f*d2 a b d e=0:=by simp only[d2]<;>grind
theorem zth(a b c d e f g h i:Int):g*d2 e f h i-h*d2 d f g i+i*d2 d e g h=0:=by simp only[d2]<;>grind
theorem zsK(a b c d e f g h i:Int):-g*d2 b c h i+h*d2 a c g i-i*d2 a b g h=0:=by simp only[d2]<;>grind
theorem zsa(a b c d e f g h i:Int):g*d2 b c e f-h*d2 a c d f+i*d2 a b d e=aP! d e f g h i:=by simp only[d3,d2]<;>grind
theorem bm3(a b c d e f g h i t:Int)(ht:t=aP! d e f g h i)(h1:t*t=1):qV [[t*d2 e f h i,-(t*d2 b c h i),t*d2 b c e f],[-(t*d2 d f g i),t*d2 a c g i,-(t*d2 a c d f)],[t*d2 d e g h,-(t*d2 a b g h),t*d2 a b d e]] [[a,b,c],[d,e,f],[g,h,i]]=one 3/\qV [[a,b,c],[d,e,f],[g,h,i]] [[t*d2 e f h i,-(t*d2 b c h i),t*d2 b c e f],[-(t*d2 d f g i),t*d2 a c g i,-(t*d2 a c d f)],[t*d2 d e g h,-(t*d2 a b g h),t*d2 a b d e]]=one 3:=by
 rw[zqX,zmy,zmy];simp only[List.cons.injEq,and_true];exact as! ⟨aV! (by have c:=zt1 a b c d e f g h i;grind) (by have c:=zsP a b c d e f g h i;grind) (by have c:=zt4 a b c d e f g h i;grind),aV! (by have c:=zrC a b c d e f g h i;grind) (by have c:=zro a b c d e f g h i;grind) (by have c:=zsM a b c d e f g h i;grind),aV! (by have c:=zsD a b c d e f g h i;grind) (by have c:=ztE a b c d e f g h i;grind) (by have c:=zso a b c d e f g h i;grind)⟩ ⟨aV! (by have c:=zrv a b c d e f g h i;grind) (by have c:=zrl a b c d e f g h i;grind) (by have c:=ztA a b c d e f g h i;grind),aV! (by have c:=ztn a b c d e f g h i;grind) (by have c:=zrB a b c d e f g h i;grind) (by have c:=zsH a b c d e f g h i;grind),aV! (by have c:=zth a b c d e f g h i;grind) (by have c:=zsK a b c d e f g h i;grind) (by have c:=zsa a b c d e f g h i;grind)⟩
theorem zrO(a b c d e f g h i j l m n o p q:Int):d3 f g h j l m o p q*a-d3 b c d j l m o p q*e+d3 b c d f g h o p q*i-d3 b c d f g h j l m*n=d4 a b c d e f g h i j l m n o p q:=by simp only[d4,d3,d2]<;>grind
theorem zrS(a b c d e f g h i j l m n o p q:Int):d3 f g h j l m o p q*b-d3 b c d j l m o p q*f+d3 b c d f g h o p q*j-d3 b c d f g h j l m*o=0:=by simp only[d3,d2]<;>grind
theorem ztd(a b c d e f g h i j l m n o p q:Int):d3 f g h j l m o p q*c-d3 b c d j l m o p q*g+d3 b c d f g h o p q*l-d3 b c d f g h j l m*p=0:=by simp only[d3,d2]<;>grind
theorem zsq(a b c d e f g h i j l m n o p q:Int):d3 f g h j l m o p q*d-d3 b c d j l m o p q*h+d3 b c d f g h o p q*m-d3 b c d f g h j l m*q=0:=by simp only[d3,d2]<;>grind
theorem ztw(a b c d e f g h i j l m n o p q:Int):-d3 e g h i l m n p q*a+cD! c d i l m n p q*e-cD! c d e g h n p q*i+cD! c d e g h i l m*n=0:=by simp only[d3,d2]<;>grind
theorem zst(a b c d e f g h i j l m n o p q:Int):-d3 e g h i l m n p q*b+cD! c d i l m n p q*f-cD! c d e g h n p q*j+cD! c d e g h i l m*o=d4 a b c d e f g h i j l m n o p q:=by simp only[d4,d3,d2]<;>grind
theorem ztr(a b c d e f g h i j l m n o p q:Int):-d3 e g h i l m n p q*c+cD! c d i l m n p q*g-cD! c d e g h n p q*l+cD! c d e g h i l m*p=0:=by simp only[d3,d2]<;>grind
theorem ztN(a b c d e f g h i j l m n o p q:Int):-d3 e g h i l m n p q*d+cD! c d i l m n p q*h-cD! c d e g h n p q*m+cD! c d e g h i l m*q=0:=by simp only[d3,d2]<;>grind
theorem zrT(a b c d e f g h i j l m n o p q:Int):d3 e f h i j m n o q*a-cE! d i j m n o q*e+cE! d e f h n o q*i-cE! d e f h i j m*n=0:=by simp only[d3,d2]<;>grind
theorem zt9(a b c d e f g h i j l m n o p q:Int):d3 e f h i j m n o q*b-cE! d i j m n o q*f+cE! d e f h n o q*j-cE! d e f h i j m*o=0:=by simp only[d3,d2]<;>grind
theorem ztm(a b c d e f g h i j l m n o p q:Int):d3 e f h i j m n o q*c-cE! d i j m n o q*g+cE! d e f h n o q*l-cE! d e f h i j m*p=d4 a b c d e f g h i j l m n o p q:=by simp only[d4,d3,d2]<;>grind
theorem zrf(a b c d e f g h i j l m n o p q:Int):d3 e f h i j m n o q*d-cE! d i j m n o q*h+cE! d e f h n o q*m-cE! d e f h i j m*q=0:=by simp only[d3,d2]<;>grind
theorem zrr(a b c d e f g h i j l m n o p q:Int):-d3 e f g i j l n o p*a+aP! i j l n o p*e-aP! e f g n o p*i+aP! e f g i j l*n=0:=by simp only[d3,d2]<;>grind
theorem zrG(a b c d e f g h i j l m n o p q:Int):-d3 e f g i j l n o p*b+aP! i j l n o p*f-aP! e f g n o p*j+aP! e f g i j l*o=0:=by simp only[d3,d2]<;>grind
theorem zts(a b c d e f g h i j l m n o p q:Int):-d3 e f g i j l n o p*c+aP! i j l n o p*g-aP! e f g n o p*l+aP! e f g i j l*p=0:=by simp only[d3,d2]<;>grind
theorem ztJ(a b c d e f g h i j l m n o p q:Int):-d3 e f g i j l n o p*d+aP! i j l n o p*h-aP! e f g n o p*m+aP! e f g i j l*q=d4 a b c d e f g h i j l m n o p q:=by simp only[d4,d3,d2]<;>grind
theorem zd5(a b c d e f g h i j l m n o p q:Int):a*d3 f g h j l m o p q-b*d3 e g h i l m n p q+c*d3 e f h i j m n o q-d*d3 e f g i j l n o p=d4 a b c d e f g h i j l m n o p q:=by rfl<;>grind
theorem zqB(a b c d e f g h i j l m n o p q:Int):-a*d3 b c d j l m o p q+b*cD! c d i l m n p q-c*cE! d i j m n o q+d*aP! i j l n o p=0:=by simp only[d3,d2]<;>grind
theorem zoX(a b c d e f g h i j l m n o p q:Int):a*d3 b c d f g h o p q-b*cD! c d e g h n p q+c*cE! d e f h n o q-d*aP! e f g n o p=0:=by simp only[d3,d2]<;>grind
theorem zow(a b c d e f g h i j l m n o p q:Int):-a*d3 b c d f g h j l m+b*cD! c d e g h i l m-c*cE! d e f h i j m+d*aP! e f g i j l=0:=by simp only[d3,d2]<;>grind
theorem zps(a b c d e f g h i j l m n o p q:Int):e*d3 f g h j l m o p q-f*d3 e g h i l m n p q+g*d3 e f h i j m n o q-h*d3 e f g i j l n o p=0:=by simp only[d3,d2]<;>grind
theorem zd3(a b c d e f g h i j l m n o p q:Int):-e*d3 b c d j l m o p q+f*cD! c d i l m n p q-g*cE! d i j m n o q+h*aP! i j l n o p=d4 a b c d e f g h i j l m n o p q:=by simp only[d4,d3,d2]<;>grind
theorem zqo(a b c d e f g h i j l m n o p q:Int):e*d3 b c d f g h o p q-f*cD! c d e g h n p q+g*cE! d e f h n o q-h*aP! e f g n o p=0:=by simp only[d3,d2]<;>grind
theorem zpx(a b c d e f g h i j l m n o p q:Int):-e*d3 b c d f g h j l m+f*cD! c d e g h i l m-g*cE! d e f h i j m+h*aP! e f g i j l=0:=by simp only[d3,d2]<;>grind
theorem zq2(a b c d e f g h i j l m n o p q:Int):i*d3 f g h j l m o p q-j*d3 e g h i l m n p q+l*d3 e f h i j m n o q-m*d3 e f g i j l n o p=0:=by simp only[d3,d2]<;>grind
theorem zoE(a b c d e f g h i j l m n o p q:Int):-i*d3 b c d j l m o p q+j*cD! c d i l m n p q-l*cE! d i j m n o q+m*aP! i j l n o p=0:=by simp only[d3,d2]<;>grind
theorem zc5(a b c d e f g h i j l m n o p q:Int):i*d3 b c d f g h o p q-j*cD! c d e g h n p q+l*cE! d e f h n o q-m*aP! e f g n o p=d4 a b c d e f g h i j l m n o p q:=by simp only[d4,d3,d2]<;>grind
theorem zqF(a b c d e f g h i j l m n o p q:Int):-i*d3 b c d f g h j l m+j*cD! c d e g h i l m-l*cE! d e f h i j m+m*aP! e f g i j l=0:=by simp only[d3,d2]<;>grind
theorem zqM(a b c d e f g h i j l m n o p q:Int):n*d3 f g h j l m o p q-o*d3 e g h i l m n p q+p*d3 e f h i j m n o q-q*d3 e f g i j l n o p=0:=by simp only[d3,d2]<;>grind
theorem zoW(a b c d e f g h i j l m n o p q:Int):-n*d3 b c d j l m o p q+o*cD! c d i l m n p q-p*cE! d i j m n o q+q*aP! i j l n o p=0:=by simp only[d3,d2]<;>grind
theorem zoH(a b c d e f g h i j l m n o p q:Int):n*d3 b c d f g h o p q-o*cD! c d e g h n p q+p*cE! d e f h n o q-q*aP! e f g n o p=0:=by simp only[d3,d2]<;>grind
theorem zcy(a b c d e f g h i j l m n o p q:Int):-n*d3 b c d f g h j l m+o*cD! c d e g h i l m-p*cE! d e f h i j m+q*aP! e f g i j l=d4 a b c d e f g h i j l m n o p q:=by simp only[d4,d3,d2]<;>grind
theorem zlw{t P Q R S a e i n w v:Int}(h:P*a-Q*e+R*i-S*n=w)(k:t*w=v):t*P*a+(-(t*Q)*e+(t*R*i+(-(t*S)*n+0)))=v:=by grind
theorem zkK{t P Q R S a e i n w v:Int}(h:-P*a+Q*e-R*i+S*n=w)(k:t*w=v):-(t*P)*a+(t*Q*e+(-(t*R)*i+(t*S*n+0)))=v:=by grind
theorem zly{t P Q R S a e i n w v:Int}(h:a*P-e*Q+i*R-n*S=w)(k:t*w=v):a*(t*P)+(e*-(t*Q)+(i*(t*R)+(n*-(t*S)+0)))=v:=by grind
theorem zl4{t P Q R S a e i n w v:Int}(h:-a*P+e*Q-i*R+n*S=w)(k:t*w=v):a*-(t*P)+(e*(t*Q)+(i*-(t*R)+(n*(t*S)+0)))=v:=by grind
theorem bm4(a b c d e f g h i j l m n o p q t:Int)(ht:t=d4 a b c d e f g h i j l m n o p q)(h1:t*t=1):qV [[t*d3 f g h j l m o p q,-(t*d3 b c d j l m o p q),t*d3 b c d f g h o p q,-(t*d3 b c d f g h j l m)],[-(t*d3 e g h i l m n p q),t*cD! c d i l m n p q,-(t*cD! c d e g h n p q),t*cD! c d e g h i l m],[t*d3 e f h i j m n o q,-(t*cE! d i j m n o q),t*cE! d e f h n o q,-(t*cE! d e f h i j m)],[-(t*d3 e f g i j l n o p),t*aP! i j l n o p,-(t*aP! e f g n o p),t*aP! e f g i j l]] [[a,b,c,d],[e,f,g,h],[i,j,l,m],[n,o,p,q]]=one 4/\qV [[a,b,c,d],[e,f,g,h],[i,j,l,m],[n,o,p,q]] [[t*d3 f g h j l m o p q,-(t*d3 b c d j l m o p q),t*d3 b c d f g h o p q,-(t*d3 b c d f g h j l m)],[-(t*d3 e g h i l m n p q),t*cD! c d i l m n p q,-(t*cD! c d e g h n p q),t*cD! c d e g h i l m],[t*d3 e f h i j m n o q,-(t*cE! d i j m n o q),t*cE! d e f h n o q,-(t*cE! d e f h i j m)],[-(t*d3 e f g i j l n o p),t*aP! i j l n o p,-(t*aP! e f g n o p),t*aP! e f g i j l]]=one 4:=by
 have k0:=Int.mul_zero t;have k1:t*d4 a b c d e f g h i j l m n o p q=1:=ht ▸ h1;exact⟨hR! (hR! (zlw (zrO a b c d e f g h i j l m n o p q) k1) (zlw (zrS a b c d e f g h i j l m n o p q) k0) (dL! (zlw (ztd a b c d e f g h i j l m n o p q) k0) (zlw (zsq a b c d e f g h i j l m n o p q) k0))) (hR! (zkK (ztw a b c d e f g h i j l m n o p q) k0) (zkK (zst a b c d e f g h i j l m n o p q) k1) (dL! (zkK (ztr a b c d e f g h i j l m n o p q) k0) (zkK (ztN a b c d e f g h i j l m n o p q) k0))) (dL! (hR! (zlw (zrT a b c d e f g h i j l m n o p q) k0) (zlw (zt9 a b c d e f g h i j l m n o p q) k0) (dL! (zlw (ztm a b c d e f g h i j l m n o p q) k1) (zlw (zrf a b c d e f g h i j l m n o p q) k0))) (hR! (zkK (zrr a b c d e f g h i j l m n o p q) k0) (zkK (zrG a b c d e f g h i j l m n o p q) k0) (dL! (zkK (zts a b c d e f g h i j l m n o p q) k0) (zkK (ztJ a b c d e f g h i j l m n o p q) k1)))), hR! (hR! (zly (zd5 a b c d e f g h i j l m n o p q) k1) (zl4 (zqB a b c d e f g h i j l m n o p q) k0) (dL! (zly (zoX a b c d e f g h i j l m n o p q) k0) (zl4 (zow a b c d e f g h i j l m n o p q) k0))) (hR! (zly (zps a b c d e f g h i j l m n o p q) k0) (zl4 (zd3 a b c d e f g h i j l m n o p q) k1) (dL! (zly (zqo a b c d e f g h i j l m n o p q) k0) (zl4 (zpx a b c d e f g h i j l m n o p q) k0))) (dL! (hR! (zly (zq2 a b c d e f g h i j l m n o p q) k0) (zl4 (zoE a b c d e f g h i j l m n o p q) k0) (dL! (zly (zc5 a b c d e f g h i j l m n o p q) k1) (zl4 (zqF a b c d e f g h i j l m n o p q) k0))) (hR! (zly (zqM a b c d e f g h i j l m n o p q) k0) (zl4 (zoW a b c d e f g h i j l m n o p q) k0) (dL! (zly (zoH a b c d e f g h i j l m n o p q) k0) (zl4 (zcy a b c d e f g h i j l m n o p q) k1))))⟩
abbrev Sz(n:Nat):g!:=n=2\/n=3\/n=4
theorem zdn(ha:h7!)(hb:eW! B):eW! (qV A B):=by
 refine⟨by simp[qV,ye,hb.len],c9! ?_⟩;obtain⟨j,_,rfl⟩:=jI!;simp[(show q! (ye B)=n from by simp[ye,hb.len])]
theorem z0V(ha:h7!):eW! (gL! A):=by
 refine⟨by simp[back,ha.len],c9! ?_⟩;obtain⟨j,_,rfl⟩:=jI!;simp[ha.len]
theorem z3A(n:Nat):eW! bu!:=by
 refine⟨by simp[one],c9! ?_⟩;obtain⟨j,_,rfl⟩:=jI!;simp
def z0a(A:Tb):g!:=eE! A=1\/eE! A=-1
theorem z0a.sq(h:z0a A):eE! A*eE! A=1:=by rcases h with h | h<;>rw[h]<;>decide
theorem z72(hn:a9!)(ha:h7!)(hf:z0a A):qV (gL! A) A=bu!/\qV A (gL! A)=bu!:=by
 have sq:=hf.sq;rcases hn with rfl | rfl | rfl
 ·obtain⟨a,b,c,d,rfl⟩:=zde ha;rw[za8]at sq;rw[zrn];exact bm2 a b c d _ rfl sq
 ·obtain⟨a1,a2,a3,a4,a5,a6,a7,a8,a9,rfl⟩:=zdK ha;rw[z80 1]at sq;rw[zsc];exact bm3 _ _ _ _ _ _ _ _ _ _ rfl sq
 ·obtain⟨a1,a2,a3,a4,a5,a6,a7,a8,a9,a10,a11,a12,a13,ii,ij,lA,rfl⟩:=zdt ha;rw[jK 0]at sq;rw[zrH];exact bm4 _ _ _ _ _ _ _ _ _ _ _ _ _ _ _ _ _ rfl sq
theorem zhj(hn:a9!)(ha:h7!)(hb:eW! B)(hf:z0a A)(hg:z0a B):z0a (qV A B):=by
 unfold z0a;rw[(zdL hn ha hb)];rcases hf with e | e<;>rcases hg with f | f<;>rw[e,f]<;>decide
theorem zmu(hn:a9!)(ha:h7!)(hf:z0a A)(hv:I!=n):mv (gL! A) (mv A v)=v:=by rw[<- zfD hn (z0V ha) ha hv,(z72 hn ha hf).1,zfT hn hv]
def Bd(m:Nat)(T:Tb):g!:=∀r∈T,∀x∈r,do! m
theorem zcf{a b:Int} (ha:od!<2 ^ m)(hb:b.natAbs<2 ^ k):bg! (a*b)<2 ^ (m+k):=by
 rw[_aJ,_bY];exact _ch ha hb
theorem zmL: ∀{xs:List Int},(∀x∈xs,do! m)->x!<=4->xs.sum.natAbs<2 ^ (m+2):=by
 intro xs h hl;cases xs with
 | nil=>exact _cx _ | cons x xs=>
  have h1:=h x (by simp);have h2:=(show ∀ys:List Int,(∀x∈ys,do! m)->ys.sum.natAbs<=c6!*2 ^ m from by
  intro ys;induction ys with
  | nil=>simp | cons y ys ih=>
   intro h;have h1:=h y (by simp);have h2:=ih (ae! (h x (by simp[hx])));rw[_aM,_h,_c9,Nat.one_mul];refine _H (_da _ _) ?_;rw[Nat.add_comm nl!];exact _bB h2 (_bh h1)) xs (cW! (h y (by simp[hy])));simp only[_h]at hl;have h4:x!*2 ^ m<=3*2 ^ m:=_aB _ (by omega);rw[_aM,_bY];refine _a4 (_da _ _) (_j (Nat.add_lt_add_of_lt_of_le h1 (_H h2 h4)) ?_);show 2 ^ m+3*2 ^ m<=2 ^ m*4;generalize 2 ^ m=p;omega
theorem zero_lt_two(m:Nat):bg! (h! 0)<2 ^ m:=_cx _
theorem z5T{r:i!}(hr:∀x∈r,do! m)(j:Nat):bg! (cL! j)<2 ^ m:=by
 by_cases h:j<aK!
 ·rw[List.getD,_b h];exact hr _ (_G _)
 ·rw[List.getD,_M (by omega)];exact zero_lt_two m
theorem zlZ(h:Bd m T):Bd m (ye T):=λr hr x hx=>by
 obtain⟨j,_,rfl⟩:=jI!;obtain⟨q,hq,rfl⟩:=iZ!;exact z5T (h q hq) j
theorem z3v(h:Bd m T)(i j:Nat):Bd m (e9! i j):=λr hr x hx=>by
 obtain⟨q,hq,rfl⟩:=jI!;exact h q (mK! hq _S _aC) x (mK! hx _S _aC)
theorem zfz{α:bL!}{l:ex!}{j:Nat}(h:j<j0!):q! (l.take j++l.drop (j+1))=j0!-1:=by
 obtain⟨k,e⟩:=Nat.exists_eq_add_of_le h;rw[_ar,_bE,_ax,e,Nat.min_eq_left (by rw[Nat.succ_add];exact _b8 (_cf ..)),Nat.add_sub_cancel_left,Nat.succ_add];rfl
theorem z5p(hi:i<br!):q! (e9! i j)=br!-1:=by rw[z1T,_z,zfz hi]
theorem zgk(i j:Nat):bg! (sg i j)=1:=by unfold sg;split<;>rfl
theorem zmh{n m:Nat}(h:1<=n):m+((n-1)*m+2*(n-1))<=n*m+2*n-2:=by
 obtain⟨k,rfl⟩:=Nat.exists_eq_add_of_le h;rw[Nat.add_sub_cancel_left,_c9,Nat.one_mul];generalize k*m=p;omega
theorem zmt{n p:Nat}(h:1<=n):p+2*n=(p+2*n-2)+2:=by omega
theorem zdE: ∀(k:Nat) (T:Tb),Bd m T->1<=br!->br!<=4->jG! k T<2 ^ (br!*m+2*br!)
 | 0,T,_,_,_=>zero_lt_two _ | k+1,T,h,h1,h4=>by
  rw[det];split
  ·rename_i e;rw[e];exact _j (z5T (by
    rw[List.getD,_b (by omega)];exact h _ (_G _)) 0) (_C (by decide) (by omega))
  ·rw[zmt h1];refine zmL (ae! ?_) (by simp;exact h4);obtain⟨j,hj,rfl⟩:=iZ!;have hw:=z5p (T:=T) (i:=0) (j:=j) (by omega);have b2:=zdE k (e9! 0 j) (z3v h 0 j) (by omega) (by omega);rw[hw]at b2;rw[_aJ,_aJ,zgk,Nat.one_mul];have b3:=_ch (show bg! (bj! (jK! 0) j)<2 ^ m from by
    refine z5T ?_ j;rw[List.getD,_b (by omega)];exact h _ (_G _)) b2;rw[<- _bY]at b3;exact _j b3 (_C (by decide) (zmh h1))
theorem zma(h:Bd m A)(h1:2<=qU!)(h4:qU!<=4)(hf:z0a A):Bd (3*m+6) (gL! A):=λr hr x hx=>by
 obtain⟨i,hi,rfl⟩:=jI!;obtain⟨j,hj,rfl⟩:=iZ!;have hw:=z5p (j:=i) (by simpa using hj);rw[_aJ,_aJ,zgk,(show jG! 4 A=1 from by rcases hf with e | e<;>rw[e]<;>rfl),Nat.one_mul];refine _j (zdE 4 (z1T A j i) (z3v h j i) (by omega) (by omega)) (_C (by decide) ?_);rw[hw];have:(qU!-1)*m<=3*m:=_aB _ (by omega);omega
theorem Tab.le(h:gZ!)(hn:a9!):∀r∈T,aK!<=4:=c9! (by rw[jx! r hr];omega)
open L2 (maxL minL maxL_ge maxL_mem minL_le minL_mem)
inductive Rl where | nx | le | al | tu deriving DecidableEq
structure Lot(n:Nat)(v:i!):g! where
 sz:a9!
 len:I!=n
 nn:∀x∈v,0<=x
 pos:∃x∈v,0<x
noncomputable def nz(v:i!):i!:=v.filter λx=>cK! x 0
noncomputable def ended(v:i!):Bool:=bw! (ho! v=1)
noncomputable def gp(v:i!):Nat:=qV! i5!
noncomputable def others(v:i!):i!:=v.take a8!++[0]++v.drop (a8!+1)
noncomputable def lp(v:i!):Nat:=qV! (i4! v)
noncomputable def wC(v:i!)(p:Nat):jJ!:=fO! pI! (λi=>cK! i p)
def deal:Rl->i!->Nat×jJ!
 | .nx,v=>((cX!).idxOf hk!,[a8!]) | .le,v=>(lp cX!,[a8!]) | .al,v=>(dn!,wC v dn!) | .tu,v=>(0,ai! fM! 0 [] (wC v 0))
noncomputable def yN(v:i!)(d:Nat×jJ!):i!:=aR! I! (λi=>am! (i∈d.2) (bY! / bs! d.1) 0)
def rot{α:bL!}(xs:ex!):ex!:=lk! 1++m7! 1
noncomputable def mvd(r:Rl)(xs:ex!):ex!:=ai! r .tu (rot xs) xs
noncomputable def left(v qs:i!)(b:Nat):i!:=kJ! (λx q=>x-q*fJ!) v qs
noncomputable def stp(r:Rl)(v:i!):i!:=g3! (cC! dk! aL!)
noncomputable def uF(b:Nat)(line:i!)(q:Int):i!:=line.take b++[line.getD b 0+q]++line.drop (b+1)
noncomputable def z7k(r:Rl)(b:Nat)(qs:i!):Tb:=pJ! (g3! (uF b line q)) pN! qs
noncomputable def jx(r:Rl)(v:i!):Tb:=z7k r aL! dk!
@[simp] theorem zmG:dot [] []=0:=U!
@[simp] theorem dot_cons(a b:Int) (r v:i!):dot (a::r) (b::v)=a*b+eD! r:=rfl
theorem uZ:∀{r c r' c':List Int},aK!=c.length->dot (r++r') (c++c')=hF! c+dot r' c'
 | [],[],_,_,_=>by simp | a::r,b::c,r',c',h=>by
  simp only[_bF,dot_cons,(uZ (r':=r') (c':=c') (by simpa using h))];lia | [],_::_,_,_,h=>by simp at h | _::_,[],_,_,h=>by simp at h
noncomputable def zhx(z:Int)(c q:i!):i!:=kJ! (λx q=>x-q*z) c q
theorem zca(z:Int):∀{r c q:List Int},aK!=c.length->c.length=q.length->hF! (zhx z c q)=hF! c-hF! q*z
 | [],[],[],_,_=>by simp[zhx] | a::r,b::c,p::q,h1,h2=>by
  have:=zca z (by simpa using h1) (by simpa using h2);simp only[zhx]at this;simp only[zhx,_aQ,dot_cons,this];grind | [],_::_,_,h,_=>by simp at h | _::_,[],_,h,_=>by simp at h | _,[],_::_,_,h=>by simp at h | _,_::_,[],_,h=>by simp at h
theorem zdI:∀{r c:List Int},(∀x∈r,0<=x)->(∀x∈c,0<=x)->0<=hF! c
 | [],[],_,_=>by simp | [],_::_,_,_=>by simp[dot] | _::_,[],_,_=>by simp[dot] | a::r,b::c,h1,h2=>by
  have i:=zdI (r:=r) (c:=c) (ae! (h1 x (by simp[hx]))) (ae! (h2 x (by simp[hx])));have j:=_bf (h1 a (by simp)) (h2 b (by simp));simp only[dot_cons];lia
theorem zna(h:aK!=c.length):dot (rot r) (rot c)=hF! c:=by match r,c,h with
 | [],[],_=>rfl | a::r,b::c,h=>
  show dot (r++[a]) (c++[b])=_;rw[uZ (by simpa using h)];simp only[dot_cons,zmG];lia | [],_::_,h=>simp at h | _::_,[],h=>simp at h
theorem zo5(l:Rl)(h:aK!=c.length):dot (mvd l r) (mvd l c)=hF! c:=by
 unfold mvd;split;·exact zna h
 ·rfl
theorem zhe{xs:ex!}:x∈rot xs ↔ x∈xs:=by cases xs with
 | nil=>simp[rot] | cons a xs=>simp[rot,or_comm]
theorem z3f{xs:ex!} : x∈mvd l xs ↔ x∈xs:=by
 unfold mvd;split;·exact zhe
 ·rfl
theorem zm8(xs:ex!):q! (rot xs)=x!:=by cases xs<;>simp[rot]
theorem z9T(xs:ex!):q! (mvd l xs)=x!:=by
 unfold mvd;split;·exact zm8 xs
 ·rfl
structure Qs(v:i!)(b:Nat)(qs:i!):g! where
 lt:b<I!
 len:j1!=I!
 zero:E! qs b 0
 nn:∀q∈qs,0<=q
 fit:∀i,0<=bY!-qs.getD i 0*fJ!
 pos:(∀q∈qs,q=0)\/0<fJ!
theorem z5n{α:bL!}{v:ex!} (h:b<I!):∃v1 z v2,v=v1++z::v2/\op!=b:= ⟨v.take b,v[b],v.drop (b+1),by rw[<- _bJ h,_ca],by simp;lia⟩
noncomputable def zjd(b:Nat)(qs r:i!):i!:=r.set b (cL! b+hF! qs)
theorem getD_at{α:bL!}{v1 v2:ex!}{z d:α} (h:op!=b):(v1++z::v2).getD b d=z:=by
 subst h;simp[List.getD]
theorem Qs.split{v qs r:i!} (h:Qs v b qs)(hr:aK!=I!):∃v1 z v2 q1 q2 r1 y r2,v=v1++z::v2/\qs=q1++0::q2/\r=r1++y::r2/\op!=b/\q1.length=b/\r1.length=b/\q2.length=v2.length/\r2.length=v2.length:=by
 obtain⟨v1,z,v2,rfl,e1⟩:=z5n h.lt;obtain⟨q1,p,q2,rfl,e2⟩:=z5n (by rw[h.len];exact h.lt);obtain⟨r1,y,r2,rfl,e3⟩:=z5n (by rw[hr];exact h.lt);have hz:=h.zero;rw[<- e2]at hz;simp at hz;subst hz;have l1:=h.len;simp at l1 hr;exact⟨v1,z,v2,q1,q2,r1,y,r2,rfl,rfl,rfl,e1,e2,e3,by lia,by lia⟩
theorem z8s(h1:op!=b) (h2:q1.length=b):left (v1++z::v2) (q1++0::q2) b=zhx z v1 q1++z::zhx z v2 q2:=by
 unfold left zhx;rw[getD_at h1,List.zipWith_append (by lia)];simp
theorem zm2(h:Qs v b qs)(hr:aK!=I!):dot (zjd b qs r) (cC! qs b)=eD! r:=by
 obtain⟨v1,z,v2,q1,q2,r1,y,r2,rfl,rfl,rfl,e1,e2,e3,e4,e5⟩:=h.split hr;rw[z8s e1 e2];unfold zjd;rw[<- e3,List.set_append_right _ _ (by lia)];simp only[_dL,_E];rw[uZ (by simp[zhx];lia),uZ (by lia),uZ (by lia)];simp only[dot_cons];rw[zca z (by lia) (by lia),zca z (by lia) (by lia)];grind
theorem uh(h:j1!=I!):q! (cC! qs b)=I!:=by simp[left,h]
theorem zgx(h:Qs v b qs):∀x∈cC! qs b,0<=x:=ae! (by
 obtain⟨i,hi,e⟩:=oV!;have:=h.fit i;have hl:=uh (b:=b) h.len;have h1:fo!:=by lia
 simp only[List.getD,_b h1,_b (by rw[h.len];exact h1),_aD]at this;rw[<- e];simpa[left,List.getD] using this)
structure zu3(B:Int)(r c:i!)(x:Int):g! where
 len:aK!=c.length
 nn:∀y∈r,0<=y/\y<=B
 dot:hF! c=x
theorem zjV(l:Rl) (h:Qs v b qs) (hx:x<=B) (I:zu3 B r v x):zu3 B (mvd l (zjd b qs r)) (mvd l (cC! qs b)) x:=by
 have hd:=zm2 h ln!;have rl:q! (zjd b qs r)=aK!:=by simp[zjd]
 have ll:=uh (b:=b) h.len;refine⟨by rw[z9T,z9T,rl,ll,I.len],cW! ?_,by rw[zo5 l (by rw[rl,ll,I.len]),hd,I.dot]⟩;rw[z3f]at hy;have ln:=zgx h;obtain⟨v1,z,v2,q1,q2,r1,u,r2,rfl,rfl,rfl,e1,e2,e3,e4,e5⟩:=h.split ln!;rw[z8s e1 e2]at hd ln;unfold zjd at hy hd;rw[(show (r1++u::r2).set b (bj! (r1++u::r2) b+ps! (r1++u::r2) (q1++0::q2))=r1++(u+ps! (r1++u::r2) (q1++0::q2))::r2 from by
  rw[getD_at e3,<- e3,List.set_append_right _ _ (by lia)];simp only[_dL,_E])]at hy hd;have dq := zdI (ae! (I.nn x hx).1) fT!;have hu:=I.nn u (by simp);rcases nX! hy with hy | hy;·exact I.nn y (by simp[hy])
 ·rcases eK! hy with rfl | hy
  ·rcases h.pos with h0 | h0
   ·have dz:ps! (r1++u::r2) (q1++0::q2)=0:=(show ∀(r q:List Int),(∀x∈q,x=0)->ps! r q=0 from by
      intro r;induction r with
      | nil=>intro q _;cases q<;>simp[Pm.dot] | cons a r ih=>
       intro q hq;cases q with
       | nil=>simp[Pm.dot] | cons p q=>rw[dot_cons,ih q (ae! (hq x (by simp[hx]))),hq p (by simp)];simp) _ _ h0;lia
   ·rw[getD_at e1]at h0;rw[uZ (by simp[zhx];lia),dot_cons]at hd;have n1:0<=ps! r1 (zhx z v1 q1):=zdI (ae! (I.nn x (by simp[hx])).1) (ae! (ln x (by simp[hx])));have n2:0<=ps! r2 (zhx z v2 q2):=zdI (ae! (I.nn x (by simp[hx])).1) (ae! (ln x (by simp[hx])));have dt:=I.dot;generalize ps! (r1++u::r2) (q1++0::q2)=dd at *;have m1:(u+dd)*1<=(u+dd)*z:=_cq (by lia) (by lia);lia
  ·exact I.nn y (by simp[hy])
theorem za4(xs:ex!):mvd .tu xs=rot xs:=by rfl
theorem z8i(h:r≠.tu)(xs:ex!):g3! xs=xs:=by simp[mvd,h]
theorem ziK(P:Tb->g!)(r:Rl)(hn:a9!)(hq:j1!=n)(hb:b<n)(hz:E! qs b 0) (ou:∀q,P [[1,0],[q,1]])(ox:∀q,P [[1,q],[0,1]]) (iG:∀p q,P [[1,0,0],[p,1,0],[q,0,1]])(oy:∀p q,P [[1,p,0],[0,1,0],[0,q,1]])(oz:∀p q,P [[1,0,p],[0,1,q],[0,0,1]]) (oA:∀p q s,P [[1,0,0,0],[p,1,0,0],[q,0,1,0],[s,0,0,1]])(oB:∀p q s,P [[1,p,0,0],[0,1,0,0],[0,q,1,0],[0,s,0,1]]) (oC:∀p q s,P [[1,0,p,0],[0,1,q,0],[0,0,1,0],[0,0,s,1]])(oE:∀p q s,P [[1,0,0,p],[0,1,0,q],[0,0,1,s],[0,0,0,1]]) (t:∀T,gZ!->P T->P (oo! rot)):P (z7k r b qs):=by
 have main:P (pJ! (uF b line q) pN! qs):=by
  rcases hn with rfl | rfl | rfl
  ·obtain⟨x,y,rfl⟩:=z8W hq;match b,hb with
   | 0,_=>obtain rfl:x=0:=hA!;exact (show P [[1+0,0],[0+y,1]] by simpa only [_aO,_aZ] using ou y) | 1,_=>obtain rfl:y=0:=hA!;exact (show P [[1,0+x],[0,1+0]] by simpa only [_aO,_aZ] using ox x)
  ·obtain⟨x,y,z,rfl⟩:=z7s hq;match b,hb with
   | 0,_=>obtain rfl:x=0:=hA!;exact (show P [[1+0,0,0],[0+y,1,0],[0+z,0,1]] by simpa only [_aO,_aZ] using iG y z) | 1,_=>obtain rfl:y=0:=hA!;exact (show P [[1,0+x,0],[0,1+0,0],[0,0+z,1]] by simpa only [_aO,_aZ] using oy x z) | 2,_=>obtain rfl:z=0:=hA!;exact (show P [[1,0,0+x],[0,1,0+y],[0,0,1+0]] by simpa only [_aO,_aZ] using oz x y)
  ·obtain⟨x,y,z,w,rfl⟩:=z6f hq;match b,hb with
   | 0,_=>obtain rfl:x=0:=hA!;exact (show P [[1+0,0,0,0],[0+y,1,0,0],[0+z,0,1,0],[0+w,0,0,1]] by simpa only [_aO,_aZ] using oA y z w) | 1,_=>obtain rfl:y=0:=hA!;exact (show P [[1,0+x,0,0],[0,1+0,0,0],[0,0+z,1,0],[0,0+w,0,1]] by simpa only [_aO,_aZ] using oB x z w) | 2,_=>obtain rfl:z=0:=hA!;exact (show P [[1,0,0+x,0],[0,1,0+y,0],[0,0,1+0,0],[0,0,0+w,1]] by simpa only [_aO,_aZ] using oC x y w) | 3,_=>obtain rfl:w=0:=hA!;exact (show P [[1,0,0,0+x],[0,1,0,0+y],[0,0,1,0+z],[0,0,0,1+0]] by simpa only [_aO,_aZ] using oE x y z)
 by_cases hr:r=.tu
 ·subst hr;have:z7k .tu b qs=(pJ! (uF b line q) pN! qs).map rot:=by
   unfold z7k;rw[_bg];rfl
  rw[this];exact t _ (by
  refine⟨by simp[one,hq],λl hl=>?_⟩;obtain⟨i,hi,rfl⟩:=ge! hl;simp at hi;simp[uF,one];lia) main
 ·rw[(show z7k r b qs=pJ! (uF b line q) pN! qs from by
   unfold z7k;simp only[z8i hr])];exact main
theorem zkm(r:Rl)(hn:a9!)(hq:j1!=n)(hb:b<n):eW! (z7k r b qs):=by
 refine⟨by simp[z7k,one,hq],λl hl=>?_⟩;obtain⟨i,hi,rfl⟩:=ge! hl;simp[z7k,z9T,uF,one];lia
theorem zkk(hn:a9!)(h:gZ!)(hf:z0a T):z0a (oo! rot):=by
 unfold z0a at hf ⊢;rcases hn with rfl | rfl | rfl
 ·obtain⟨a,b,c,d,rfl⟩:=zde h;simp only[_u,List.map_nil,rot,List.drop_one,List.tail_cons,_cz,List.take_zero,_bF,_av];rw[za8]at hf ⊢;simp only[d2]at hf ⊢;grind
 ·obtain⟨a,b,c,d,e,f,g,i,j,rfl⟩:=zdK h;simp only[_u,List.map_nil,rot,List.drop_one,List.tail_cons,_cz,List.take_zero,_bF,_av];rw[z80 1]at hf ⊢;simp only[d3,d2]at hf ⊢;grind
 ·obtain⟨a,b,c,d,e,f,g,i,j,k,l,m,n,o,p,q,rfl⟩:=zdt h;simp only[_u,List.map_nil,rot,List.drop_one,List.tail_cons,_cz,List.take_zero,_bF,_av];rw[jK 0]at hf ⊢;have e1:d4 b c d a f g i e k l m j o p q n=- d4 a b c d e f g i j k l m n o p q:=by simp only[d4,d3,d2];grind
  lia
theorem zh6(r:Rl)(hn:a9!)(hq:j1!=n)(hb:b<n)(hz:E! qs b 0):z0a (z7k r b qs):=by
 refine ziK z0a r hn hq hb hz ?_ ?_ ?_ ?_ ?_ ?_ ?_ ?_ ?_ λT hT hf=>zkk hn hT hf;·intro q;unfold z0a;rw[za8];simp[d2]
 ·intro q;unfold z0a;rw[za8];simp[d2]
 ·intro p q;unfold z0a;rw[z80 1];simp[d3,d2]
 ·intro p q;unfold z0a;rw[z80 1];simp[d3,d2]
 ·intro p q;unfold z0a;rw[z80 1];simp[d3,d2]
 ·intro p q s;unfold z0a;rw[jK 0];simp[d4,d3,d2]
 ·intro p q s;unfold z0a;rw[jK 0];simp[d4,d3,d2]
 ·intro p q s;unfold z0a;rw[jK 0];simp[d4,d3,d2]
 ·intro p q s;unfold z0a;rw[jK 0];simp[d4,d3,d2]
noncomputable def zcX(T:Tb)(r:i!):i!:=(ye T).map (dot r)
theorem z04(hn:a9!)(ha:h7!)(ht:gZ!):qV A T=A.map (zcX T):=by
 rcases hn with rfl | rfl | rfl
 ·obtain⟨a,b,c,d,rfl⟩:=zde ha;obtain⟨e,f,g,h,rfl⟩:=zde ht;rfl
 ·obtain⟨a1,a2,a3,a4,a5,a6,a7,a8,a9,rfl⟩:=zdK ha;obtain⟨b1,b2,b3,b4,b5,b6,b7,b8,b9,rfl⟩:=zdK ht;rfl
 ·obtain⟨a1,a2,a3,a4,a5,a6,a7,a8,a9,a10,a11,a12,a13,ii,ij,lA,rfl⟩:=zdt ha;obtain⟨b1,b2,b3,b4,b5,b6,b7,b8,b9,nZ,oa,oh,oj,om,oo,oq,rfl⟩:=zdt ht;rfl
theorem zjI(hn:a9!)(h:gZ!):zcX (oo! rot) r=rot (zcX T r):=by
 rcases hn with rfl | rfl | rfl
 ·obtain⟨a,b,c,d,rfl⟩:=zde h;rfl
 ·obtain⟨a,b,c,d,e,f,g,i,j,rfl⟩:=zdK h;rfl
 ·obtain⟨a,b,c,d,e,f,g,i,j,k,l,m,n,o,p,q,rfl⟩:=zdt h;rfl
theorem zt8(y x' y':Int):x'*(1+0)+(y'*(0+y)+0)=x'+(x'*0+(y'*y+0)):=by grind
theorem ztI(x x' y':Int):x'*(0+x)+(y'*(1+0)+0)=y'+(x'*x+(y'*0+0)):=by grind
theorem zsj(y z x' y' z':Int):x'*(1+0)+(y'*(0+y)+(z'*(0+z)+0))=x'+(x'*0+(y'*y+(z'*z+0))):=by grind
theorem ztF(x z x' y' z':Int):x'*(0+x)+(y'*(1+0)+(z'*(0+z)+0))=y'+(x'*x+(y'*0+(z'*z+0))):=by grind
theorem zti(x y x' y' z':Int):x'*(0+x)+(y'*(0+y)+(z'*(1+0)+0))=z'+(x'*x+(y'*y+(z'*0+0))):=by grind
theorem zrk(y z w x' y' z' w':Int):x'*(1+0)+(y'*(0+y)+(z'*(0+z)+(w'*(0+w)+0)))=x'+(x'*0+(y'*y+(z'*z+(w'*w+0)))):=by grind
theorem zrt(x z w x' y' z' w':Int):x'*(0+x)+(y'*(1+0)+(z'*(0+z)+(w'*(0+w)+0)))=y'+(x'*x+(y'*0+(z'*z+(w'*w+0)))):=by grind
theorem zs1(x y w x' y' z' w':Int):x'*(0+x)+(y'*(0+y)+(z'*(1+0)+(w'*(0+w)+0)))=z'+(x'*x+(y'*y+(z'*0+(w'*w+0)))):=by grind
theorem ztS(x y z x' y' z' w':Int):x'*(0+x)+(y'*(0+y)+(z'*(0+z)+(w'*(1+0)+0)))=w'+(x'*x+(y'*y+(z'*z+(w'*0+0)))):=by grind
theorem zi3(r:Rl)(hn:a9!)(hq:j1!=n)(hb:b<n)(hz:E! qs b 0)(hr:row.length=n):zcX (z7k r b qs) row=g3! (zjd b qs row):=by
 have main:zcX (pJ! (uF b line q) pN! qs) row=zjd b qs row:=by
  rcases hn with rfl | rfl | rfl
  ·obtain⟨x,y,rfl⟩:=z8W hq;obtain⟨x',y',rfl⟩:=z8W hr;have u:=zun x' y';match b,hb with
   | 0,_=>obtain rfl:x=0:=hA!;exact dL! (zt8 ..) u.2 | 1,_=>obtain rfl:y=0:=hA!;exact dL! u.1 (ztI ..)
  ·obtain⟨x,y,z,rfl⟩:=z7s hq;obtain⟨x',y',z',rfl⟩:=z7s hr;have u:=zuq x' y' z';match b,hb with
   | 0,_=>obtain rfl:x=0:=hA!;exact zu (zsj ..) (dL! u.2.1 u.2.2) | 1,_=>obtain rfl:y=0:=hA!;exact zu u.1 (dL! (ztF ..) u.2.2) | 2,_=>obtain rfl:z=0:=hA!;exact zu u.1 (dL! u.2.1 (zti ..))
  ·obtain⟨x,y,z,w,rfl⟩:=z6f hq;obtain⟨x',y',z',w',rfl⟩:=z6f hr;have u:=zu8 x' y' z' w';match b,hb with
   | 0,_=>obtain rfl:x=0:=hA!;exact hR! (zrk ..) u.2.1 (dL! u.2.2.1 u.2.2.2) | 1,_=>obtain rfl:y=0:=hA!;exact hR! u.1 (zrt ..) (dL! u.2.2.1 u.2.2.2) | 2,_=>obtain rfl:z=0:=hA!;exact hR! u.1 u.2.1 (dL! (zs1 ..) u.2.2.2) | 3,_=>obtain rfl:w=0:=hA!;exact hR! u.1 u.2.1 (dL! u.2.2.1 (ztS ..))
 by_cases h:r=.tu
 ·subst h;have e:z7k .tu b qs=(pJ! (uF b line q) pN! qs).map rot:=by
   unfold z7k;rw[_bg];rfl
  rw[e,zjI hn (by
  refine⟨by simp[one,hq],λl hl=>?_⟩;obtain⟨i,hi,rfl⟩:=ge! hl;simp at hi;simp[uF,one];lia),main,za4]
 ·rw[(show z7k r b qs=pJ! (uF b line q) pN! qs from by
   unfold z7k;simp only[z8i h]),main,z8i h]
theorem uM: x∈nz v ↔ x∈v/\x≠0:=by simp[nz]
theorem getD_mem{v:i!} (h:fo!):bY!∈v:=by simp[_b h]
theorem vP{v:i!}(h:∀x∈v,0<=x)(i:Nat):0<=bY!:=by
 by_cases hi:fo!;·exact h _ (hb! hi)
 ·simp[_M (qW! hi)]
theorem zaV{v:i!} (h:x∈v):qV! x<I!/\bs! (qV! x)=x:=by
 have hl:=List.idxOf_lt_length_of_mem h;exact⟨hl,by simp[_b hl,_cP hl]⟩
theorem Lot.ne(h:a2!):a3! v:=λz=>by
 obtain⟨x,hx,_⟩:=h.pos;rw[z]at hx;simp at hx
theorem Lot.nzne(h:a2!):nz v≠[]:=λz=>by
 obtain⟨x,hx,h0⟩:=h.pos;have := qX! ⟨hx,by lia⟩;rw[z]at this;simp at this
theorem zcq(h:nz v≠[]):dn!<I!/\bs! dn!=i4! v/\i4! v≠0:=by
 have m:=rZ! h;have:=zaV m.1;exact aV! (iP!).1 (iP!).2 m.2
theorem zcr(h:a3! v):a8!<I!/\bs! a8!=i5!:=zaV (kE! h)
theorem others_eq(h:a3! v):cX!=v.set a8! 0:=by
 unfold others;rw[_b0,_i ((zcr h).1)];simp
theorem vZ(h:a3! v)(i:Nat):bj! cX! i=ai! i a8! 0 bY!:=by
 rw[others_eq h];by_cases e:i=a8!
 ·subst e;simp[((zcr h).1)]
 ·simp[e,_ab (_bT e)]
theorem wq(h:a3! v):q! cX!=I!:=by rw[others_eq h];simp
theorem zhh:∀{v:List Int}{p:Nat},ho! v≠1->bs! p≠0->∃j,j≠p/\j<I!/\bs! j≠0:=by
 intro v p he hp;apply _Y;intro hn;apply he;obtain⟨v1,z,v2,rfl,e1⟩:=z5n (show p<I! from by
  apply _Y;exact λz=>hp (by simp[_M (qW! z)]));rw[getD_at e1]at hp;have g2:v2.filter (λx=>cK! x 0)=[]:=_bl.mpr (ae! (by simp[(ae! (by
  obtain⟨j,hj,rfl⟩:=oV!;apply _Y;refine λz0=>hn ⟨op!+1+j,by lia,by simp;lia,?_⟩;rw[List.getD,(show E! (v1++z::v2) (op!+1+j) (v2[j]) from by rw[_bx (by lia),show op!+1+j-op!=j+1 by lia,_d,_b hj])];simpa using z0):∀x∈v2,x=0) x hx]))
 simp only[nz,List.filter_append,_aE,(_bl.mpr (ae! (by simp[(ae! (by
  obtain⟨j,hj,rfl⟩:=oV!;apply _Y;intro z0;exact hn ⟨j,by lia,by simp;lia,by simpa[_I hj,_b hj] using z0⟩):∀x∈v1,x=0) x hx])):v1.filter (λx=>cK! x 0)=[]),g2];simp[hp]
theorem z8K(he:en!):ho! v≠1:=by simpa[ended] using he
structure Dl(v:i!)(b:Nat)(dv:jJ!):g! where
 lt:b<I!
 nb:b∉dv
 pos:dv=[]\/0<fJ!
theorem vU: i∈wC v p ↔ fo!/\i≠p:=by simp[wC]
theorem zfF(h:a2!) (hb:b<I!)(h0:bj! cX! b≠0):Dl v b [a8!]/\0<fJ!/\fJ!<=bs! a8!:=by
 rw[vZ eR!]at h0;have p0:0<fJ!:=by have:=vP fT! b;lia
 refine aV! ⟨hb,by simpa using (λe=>by rw[_i e]at h0;exact h0 rfl),Q! p0⟩ p0 ?_;rw[(zcr eR!).2];exact ob! _ (hb! hb)
theorem jE(h:a2!)(he:en!):nz cX!≠[]:=by
 have mx:0<i5!:=by
  obtain⟨x,hx,h0⟩:=h.pos;have:=ob! x hx;lia
 obtain⟨j,h1,h2,h3⟩:=zhh (z8K he) (by rw[(zcr eR!).2];lia);intro z;have := qX! ⟨by
  have:=hb! (by rw[wq eR!];exact h2);rw[vZ eR!,_q h1]at this;exact this,h3⟩;rw[z]at this;simp at this
theorem uE(r:Rl)(h:a2!)(he:en!):Dl v aL! (mn!).2:=by cases r with
 | nx=>
  have a:=zaV (kE! (λz=>by
   have:=wq eR!;rw[z]at this;exact h.ne (_aX.mp this.symm):a3! cX!));refine (zfF h (by rw[<- wq eR!];exact a.1) ?_).1;show bj! cX! ((cX!).idxOf hk!)≠0;have m:=rZ! (jE h he);have m1:=ob! _ m.1;have m2:0<=i4! cX!:=by
   obtain⟨i,hi,e⟩:=ge! m.1;have:=vZ eR! i;rw[(show bj! cX! i=i4! cX! from by simp[_b hi,e])]at this;rw[this];split;·lia
   ·exact vP fT! i
  lia | le=>
  have a:=zcq (jE h he);refine (zfF h (by rw[<- wq eR!];exact a.1) ?_).1;show bj! cX! (lp cX!)≠0;rw[a.2.1];exact a.2.2 | al=>
  have a:=zcq qY!;refine⟨a.1,by simp[deal,vU],Q! ?_⟩;show 0<bs! dn!;have:=vP fT! dn!;lia | tu=>
  refine aV! (show 0<I! from by have:=h.sz;rw[h.len];lia) ?_ ?_
  ·show 0∉(ai! fM! 0 [] (wC v 0));split<;>simp[vU]
  ·show (ai! fM! 0 [] (wC v 0))=[]\/0<fM!;split;·exact cZ!
   ·have:=vP fT! 0;exact Q! (by lia)
theorem xa(v:i!)(d:Nat×jJ!):q! (yN v d)=I!:=by simp[yN]
theorem zeW(v:i!)(d:Nat×jJ!)(i:Nat):bj! (yN v d) i=am! (fo!/\i∈d.2) (bY! / bs! d.1) 0:=by
 unfold yN;by_cases hi:fo!;·simp[hi]
 ·simp[hi]
theorem qK(i:Nat):bY!-bj! (yN v d) i*bs! d.1=am! (fo!/\i∈d.2) (bY! % bs! d.1) bY!:=by
 rw[zeW];split
 ·have:=_bv bY! (bs! d.1);have e:=Int.mul_comm (bY! / bs! d.1) (bs! d.1);lia
 ·lia
theorem zeX(hv:∀x∈v,0<=x)(h:Dl v d.1 d.2):Qs v d.1 (yN v d):=by
 refine⟨h.lt,xa _ _,?_,λq hq=>?_,λi=>?_,?_⟩;·simp[yN,h.lt,h.nb]
 ·obtain⟨i,hi,rfl⟩:=ge! hq;simp only[yN,_bG,List.getElem_range];split;·exact Int.ediv_nonneg (vP hv _) (vP hv _)
  ·lia
 ·rw[qK];split
  ·rename_i hi;rcases h.pos with z | z;·rw[z]at hi;simp at hi
   ·exact _a9 _ (by lia)
  ·exact vP hv i
 ·rcases h.pos with z | z
  ·refine y! (λq hq=>?_);obtain⟨i,hi,rfl⟩:=ge! hq;simp[yN,z]
  ·exact Q! z
noncomputable def bl(n:Nat):Nat:=ai! n 0 0 (bl (n / 2)+1)
termination_by n
decreasing_by lia
theorem zc4:bl 0=0:=by rw[bl];rfl
theorem zdq(h:n≠0):bl n=bl (n / 2)+1:=by rw[bl,_q h]
theorem zgz:∀(b a:Nat),a<=b->bl a<=bl b:=by
 intro b;induction b using Nat.strongRecOn with | ind b ih=>
  intro a h;by_cases h0:a=0;·subst h0;rw[zc4];lia
  ·rw[zdq h0,zdq (show b≠0 by lia)];have:=ih (b / 2) (by lia) (a / 2) (by lia);lia
theorem zn9(h:2*a<b):bl a<bl b:=by
 rw[zdq (show b≠0 by lia)];have:=zgz (b / 2) a (by lia);lia
theorem zou:∀(k n:Nat),n<2 ^ k->bl n<=k
 | 0,n,h=>by simp at h;subst h;rw[zc4];lia | k+1,n,h=>by
  by_cases h0:n=0;·subst h0;rw[zc4];lia
  ·rw[zdq h0];have:=zou k (n / 2) (by lia);lia
noncomputable def wt(v:i!):Nat:=(v.map λx=>bl og!).sum
theorem zoI:∀{u v:List Int},qZ!=I!->(∀i,bl (u.getD i 0).toNat<=bl (fc! bY!))->wt u<=wt v/\((∃i,bl (u.getD i 0).toNat<bl (fc! bY!))->wt u<wt v)
 | [],[],_,_=>⟨by decide,λ⟨i,h⟩=>by simp at h⟩ | a::u,b::v,hl,h=>by
  have ih:=zoI (by simpa using hl) λi=>by exact h (i+1)
  have h0:bl a.toNat<=bl pe!:=by exact h 0
  simp only[wt,_u,_aM]at ih ⊢;refine⟨by lia,λ⟨i,hi⟩=>?_⟩;cases i with
  | zero=>
   have:bl a.toNat<bl pe!:=by exact hi
   lia | succ i=>
   have:=ih.2 ⟨i,by exact hi⟩;lia
 | [],_::_,h,_=>by cases h | _::_,[],h,_=>by cases h
theorem vo(h:j1!=I!)(i:Nat):bj! (cC! qs b) i=bY!-qs.getD i 0*fJ!:=by
 unfold left;by_cases hi:fo!;·simp[List.getElem?_zipWith,_b hi,_b (show i<j1! from by lia)]
 ·simp[List.getElem?_zipWith,_M (qW! hi),_M (qW! (show ¬ i<j1! from by lia))]
theorem z9a{u v:i!}(hl:qZ!=I!)(h:∀i,u.getD i 0=bY!):u=v:=by
 refine _aL hl λi h1 h2=>?_;simpa[_b h1,_b h2] using (h i)
theorem zka{a b:Int}(h0:0<b)(h:b<=a):2*(a % b)<a:=by
 have h1:=_bv a b;have h2:=_bm a h0;have h5:b*1<=b*(a / b):=_cq (by
  have:=Int.ediv_le_ediv h0 h;rwa [Int.ediv_self (by lia)]at this) (by lia);lia
theorem zfR{a b:Int}(ha:0<=a)(h0:0<b):a % b<=a:=by
 have h1:=_bv a b;have h3:0<=b*(a / b):=_bf (by lia) (Int.ediv_nonneg ha (by lia));lia
theorem znF(hv:∀x∈v,0<=x)(h:Dl v d.1 d.2):wt (cC! (yN v d) d.1)<=wt v/\((∃i,fo!/\i∈d.2/\bs! d.1<=bY!)->wt (cC! (yN v d) d.1)<wt v):=by
 have hl:=xa v d;have key:∀i,bj! (cC! (yN v d) d.1) i=am! (fo!/\i∈d.2) (bY! % bs! d.1) bY!:=λi=>by rw[vo hl,qK]
 have p:∀i,fo!/\i∈d.2->0<bs! d.1:=eP! (by
  rcases h.pos with z | z;·rw[z]at hi;simp at hi
  ·exact z)
 have w:=zoI (uh hl) λi=>by
  rw[key];split
  ·rename_i hi;have:=zfR (vP hv i) (p i hi);exact zgz _ _ (by lia)
  ·exact al!
 refine⟨w.1,λ⟨i,h1,h2,h3⟩=>w.2 ⟨i,?_⟩⟩;rw[key,cd! h1 h2];have h0:=p i ⟨h1,h2⟩;have:=zka h0 h3;exact zn9 (by lia)
theorem zlt(v:i!):wt (rot v)=wt v:=by cases v with
 | nil=>rfl | cons a v=>simp[rot,wt];lia
theorem zeI(h:∀x,x∈a ↔ x∈b)(ha:a3! a):minL a=minL b:=by
 have h1:=minL_le _ ((h _).mp (rD! ha));have h2:=minL_le _ ((h _).mpr (rD! (λz=>by
  have:=(h _).mp (rD! ha);rw[z]at this;cases this)));lia
theorem zpp(h:nz v≠[])(h0:fM!≠i4! v):lp (rot v)<dn!:=by cases v with
 | nil=>exact bS! h (by decide) | cons a t=>
  have m:=(rZ! h).1;have ha:a≠i4! (a::t):=by exact h0
  unfold lp;rw[((zeI (λx=>by rw[uM,uM,zhe]) h).symm)];generalize i4! (a::t)=m' at *;show List.idxOf m' (t++[a])<_;rw[List.idxOf_append,_i ((eK! m).resolve_left λz=>ha js!),List.idxOf_cons,show (a==m')=r! from by simpa using ha];simp
noncomputable def mu(r:Rl)(v:i!):Nat:=5*wt v+(ai! r .tu dn! 0)
theorem Lot.step{n:Nat}{v:i!}(r:Rl)(h:a2!)(he:en!):Lot n dt!:=by
 have dl:=uE r h he;have q:=zeX fT! dl;refine⟨jy!,by rw[stp,z9T,uh mj!,h.len],ae! (zgx q x (z3f.mp hx)),?_⟩;have fin:∀x∈cC! dk! aL!,0<x->∃x∈dt!,0<x:=λx hx h0=>⟨x,z3f.mpr hx,h0⟩;rcases dl.pos with z | z
 ·obtain⟨x,hx,h0⟩:=h.pos;refine fin x ?_ h0;rw[(z9a (uh mj!) λi=>by rw[vo mj!,qK,z];simp)];exact hx
 ·refine fin (bs! aL!) ?_ z;rw[<- (show bj! (cC! dk! aL!) aL!=bs! aL! from by rw[vo mj!,qK,_q (λw=>dl.nb w.2)])];exact hb! (by rw[uh mj!];exact dl.lt)
theorem zoq(h:a2!):dn!<4:=by
 have:=(zcq qY!).1;have:=h.len;have:=h.sz;lia
theorem zrE(r:Rl)(h:a2!)(he:en!):mu r dt!<mu r v:=by
 have dl:=uE r h he;have w:=znF fT! dl;have mn:∀j,j<I!->bs! j≠0->i4! v<=bs! j:=λj hj h0=>minL_le _ (qX! ⟨hb! hj,h0⟩);cases r with
 | nx=>
  have g:=zcr eR!;have:wt (pO! .nx)<wt v:=by
   refine w.2 ⟨a8!,g.1,by simp[deal],?_⟩;rw[g.2];exact ob! _ (hb! q0!)
  simp only[mu];rw[_q (by decide)];lia | le=>
  have g:=zcr eR!;have:wt (pO! .le)<wt v:=by
   refine w.2 ⟨a8!,g.1,by simp[deal],?_⟩;rw[g.2];exact ob! _ (hb! q0!)
  simp only[mu];rw[_q (by decide)];lia | al=>
  have l:=zcq qY!;obtain⟨j,h1,h2,h3⟩:=zhh (z8K he) (by rw[l.2.1];exact l.2.2);have:wt (pO! .al)<wt v:=by
   refine w.2 ⟨j,h2,by simp[deal,vU,h1,h2],?_⟩;show bs! dn!<=_;rw[l.2.1];exact mn j h2 h3
  simp only[mu];rw[_q (by decide)];lia | tu=>
  simp only[mu];rw[_i trivial];have l4:=zoq (h.step .tu he);have same:cC! (yN v mV!) (mV!).1=v->fM!≠i4! v->5*wt (pO! .tu)+lp (pO! .tu)<5*wt v+dn!:=λe h0=>by
   have:=zpp qY! h0;rw[(show pO! .tu=rot v from by rw[stp,za4,e]),zlt];lia
  by_cases z:fM!=0
  ·refine same (z9a (uh (xa _ _)) λi=>?_) λq=>((zcq qY!).2.2 (by rw[<- q,z]))
   ·rw[vo (xa _ _),qK];rw[show (mV!).2=[] from by show (ai! fM! 0 [] (wC v 0))=[];rw[_i z]];simp
  ·by_cases ex:∃i,fo!/\i≠0/\fM!<=bY!
   ·obtain⟨i,h1,h2,h3⟩:=ex;have:wt (pO! .tu)<wt v:=by
     rw[stp,za4,zlt];refine w.2 ⟨i,h1,?_,h3⟩;show i∈(ai! fM! 0 [] (wC v 0));rw[_q z];exact vU.mpr ⟨h1,h2⟩
    lia
   ·refine same (z9a (uh (xa _ _)) λi=>?_) λq=>?_
    ·rw[vo (xa _ _),qK];split
     ·rename_i hi;have:¬ fM!<=bY!:=λw=>ex ⟨i,hi.1,(by
       have:=hi.2;simp only[deal,_q z,vU]at this;exact (iP!).2),w⟩;show bY! % fM!=_;exact Int.emod_eq_of_lt (vP fT! i) (by lia)
     ·rfl
    ·obtain⟨j,h1,h2,h3⟩:=zhh (z8K he) z;have:=mn j h2 h3;exact ex ⟨j,h2,h1,by lia⟩
inductive Run(r:Rl):i!->ff!->g! | done {v:i!}:nw!=c!->Run r v [v] | step {v:i!}{ls:ff!}:en!->f8! dt!->Run r v (v::ls)
theorem zlB: ∀(k:Nat)(v:List Int),a2!->mu r v<=k->∃ls,f8! v/\pt!<=k+1
 | k,v,h,hk=>by cases he:nw! with
  | true=>exact⟨[v],.done he,by simp⟩ | false=>
   have lt:=zrE r h he;match k,hk with
   | 0,hk=>lia | k+1,hk=>
    obtain⟨ls,h1,h2⟩:=zlB (r:=r) k dt! (oY! he) (by lia);exact⟨v::ls,.step he h1,by simp;lia⟩
theorem zpV: ∀{v:List Int},(∀x∈v,og!<2 ^ m)->wt v<=I!*m
 | [],_=>by simp[wt] | a::v,h=>by
  have ih:=zpV (v:=v) (ae! (h x (by simp[hx])));have:=zou m a.toNat (h a (by simp));simp only[wt,_u,_aM,_h,Nat.succ_mul]at ih ⊢;lia
theorem zrd(h:a2!)(hb:∀x∈v,og!<2 ^ m):mu r v<=20*m+3:=by
 have w:=zpV hb;have l:=zoq h;have:I!*m<=4*m:=_aB m (by have:=h.len;have:=h.sz;lia);unfold mu;split<;>lia
noncomputable def cg(a b:Int):Int:=h! (Int.gcd a b)
noncomputable def z2V(v:i!):Int:=oO! 0
theorem z5f:∀(v:List Int)(a:Int),0<=a->0<=oO! a/\(oO! a ∣ a/\∀x∈v,oO! a ∣ x)/\∀d,d ∣ a->(∀x∈v,d ∣ x)->d ∣ oO! a
 | [],a,h=>⟨h,⟨Int.dvd_refl _,by simp⟩,λd hd _=>hd⟩ | x::v,a,h=>by
  have ih:=z5f v (cg a x) (by simp[cg]);refine⟨ih.1,⟨_bS ih.2.1.1 (_dz ..),cW! ?_⟩,λd hd hx=>(ih.2.2 d (Int.dvd_coe_gcd hd (hx x (by simp))) (cW! (hx y (by simp[hy]))))⟩
  ·rcases eK! hy with rfl | hy;·exact _bS ih.2.1.1 (_db ..)
   ·exact ih.2.1.2 y hy
theorem zcz(v:i!):0<=f6!:=(z5f v 0 (by lia)).1
theorem z9w: ∀x∈v,f6! ∣ x:=(z5f v 0 (by lia)).2.1.2
theorem z9b(h:∀x∈v,d ∣ x):d ∣ f6!:=(z5f v 0 (by lia)).2.2 d (_dM d) h
theorem zlT(h:∀d,(∀x∈u,d ∣ x) ↔ (∀x∈v,d ∣ x)):z2V u=f6!:= _dA (zcz u) (zcz v) (z9b ((h _).mp z9w)) (z9b ((h _).mpr z9w))
theorem zed{v:i!}{P:Int->g!}(h0:P 0):(∀x∈v,P x) ↔ ∀i,P bY!:=by
 constructor
 ·intro h i;by_cases hi:fo!;·exact h _ (hb! hi)
  ·simp[_M (qW! hi),h0]
 ·intro h x hx;obtain⟨i,hi,rfl⟩:=oV!;simpa[_b hi] using (h i)
theorem zfI(r:Rl)(h:a2!)(he:en!):z2V dt!=f6!:=by
 have dl:=uE r h he;have q:=zeX fT! dl;refine zlT λd=>?_;rw[(show (∀x∈dt!,d ∣ x) ↔ ∀x∈cC! dk! aL!,d ∣ x from by
  constructor;·exact λh x hx=>h x (z3f.mpr hx)
  ·exact λh x hx=>h x (z3f.mp hx)),zed (_dM d),zed (_dM d)];constructor
 ·intro hd i;have h1:=hd i;have h2:=hd aL!;rw[(show bj! (cC! dk! aL!) aL!=bs! aL! from by rw[vo mj!,qK,_q (λw=>dl.nb w.2)])]at h2;rw[vo mj!]at h1;have:=Int.dvd_add h1 (_bS h2 (Int.dvd_mul_left ..):d ∣ bj! dk! i*bs! aL!);rwa [Int.sub_add_cancel]at this
 ·intro hd i;rw[vo mj!];exact Int.dvd_sub (hd i) (_bS (hd aL!) (Int.dvd_mul_left ..))
theorem zlF:∀v:List Int,v.sum=(nz v).sum
 | []=>rfl | a::v=>by
  have:=zlF v;by_cases h:a=0;·subst h;simp[nz]at this ⊢;exact this
  ·simp[nz,h]at this ⊢;exact this
theorem zhS(h:a2!)(he:nw!=c!):v.sum=f6!:=by
 obtain⟨x,ex⟩:∃x,nz v=[x]:=by match hz:nz v,(show ho! v=1 from by simpa[ended] using he) with | [x],_=>exact co! x
 have xm:=uM.mp (show x∈nz v by rw[ex];simp);rw[(show v.sum=x from by rw[zlF,ex];simp)];refine _dA (h.nn x xm.1) (zcz v) (z9b (cW! ?_)) (z9w x xm.1);by_cases y0:y=0;·subst y0;exact _dM _
 ·have := qX! ⟨hy,y0⟩;rw[ex]at this;simp at this;subst this;exact Int.dvd_refl _
structure PI(n:Nat)(B:Int)(P:Tb)(c x:i!):g! where
 tab:eW! P
 nn:∀row∈P,∀y∈row,0<=y/\y<=B
 eq:mv P c=x
theorem z0X(r:Rl)(h:a2!)(he:en!):eW! fN!:=zkm r jy! (by rw[xa,h.len]) (by rw[<- h.len];exact (uE r h he).lt)
theorem zfM(r:Rl)(h:a2!)(he:en!):z0a fN!:=by
 have dl:=uE r h he;exact zh6 r jy! (by rw[xa,h.len]) (by rw[<- h.len];exact dl.lt) (zeX fT! dl).zero
theorem PI.step{n:Nat}{B:Int}{P:Tb}{c x:i!}(r:Rl)(I:PI n B P c x)(hx:∀y∈x,y<=B)(h:Lot n c)(he:nm! c=r!):PI n B (qV P (jx r c)) (stp r c) x:=by
 have dl:=uE r h he;have q:=zeX fT! dl;have tt:=z0X r h he;have bv:∀row∈P,zcX (jx r c) row=g3! (zjd (deal r c).1 (yN c (deal r c)) row):=λrow hr=>zi3 r jy! (by rw[xa,h.len]) (by rw[<- h.len];exact dl.lt) q.zero (I.tab.row row hr);have ri := λrow hr=>zjV r q (hx _ (by rw[<- I.eq];exact _t.mpr ⟨row,hr,rfl⟩)) ⟨by rw[I.tab.row row hr,h.len],I.nn row hr,rfl⟩;refine⟨zdn I.tab tt,λrow hr y hy=>?_,?_⟩
 ·rw[z04 jy! I.tab tt]at hr;obtain⟨w,hw,rfl⟩:=jI!;rw[bv w hw]at hy;exact (ri w hw).nn y hy
 ·rw[z04 jy! I.tab tt,<- I.eq];unfold mv;rw[_ae];refine _ao λw hw=>?_;show dot (zcX (jx r c) w) (stp r c)=dot w c;rw[bv w hw];exact (ri w hw).dot
theorem zpQ(n:Nat):∀row∈bu!,∀y∈row,0<=y/\y<=1:=λrow hr y hy=>by
 obtain⟨i,_,rfl⟩:=jI!;obtain⟨j,_,rfl⟩:=_t.mp hy;split<;>lia
theorem PI.start(h:a2!)(hx:∀y∈v,y<=B):PI n B bu! v v:=by
 have b1:1<=B:=by
  obtain⟨y,hy,h0⟩:=h.pos;have:=hx y hy;lia
 refine⟨z3A n,λrow hr y hy=>?_,zfT jy! h.len⟩;have:=zpQ n row hr y hy;lia
theorem znh(r:Rl)(h:a2!)(he:en!)(hb:∀y∈v,y<=B):∀row∈fN!,∀y∈row,0<=y/\y<=B:=by
 have e:=((PI.start h hb).step r hb h he).nn;rw[(z5d jy! (z0X r h he)).1]at e;exact e
theorem zqV(r:Rl)(h:a2!)(he:en!)(hb:∀y∈v,y<=B):∀y∈dt!,y<=B:=cW! (by
 have dl:=uE r h he;have q:=zeX fT! dl;obtain⟨i,hi,rfl⟩:=ge! (z3f.mp hy);have b:=hb _ (hb! (by rw[<- uh mj!];exact hi));rw[(show (cC! dk! aL!)[i]=bj! (cC! dk! aL!) i from by simp[_b hi]),vo mj!,qK];split
 ·rename_i w;rcases dl.pos with z | z;·rw[z]at w;simp at w
  ·have:=zfR (vP fT! i) z;lia
 ·exact b)
noncomputable def scl(k:Int)(v:i!):i!:=v.map λx=>x*k
section
variable {k:Int}(hk:0<k)
include hk
theorem zmF: x*k=y*k ↔ x=y:=⟨λh=>Int.eq_of_mul_eq_mul_right (by lia) h,λh=>by rw[h]⟩
theorem znW: x*k∈scl k v ↔ x∈v:=by
 unfold scl;rw[_t];exact⟨λ⟨y,hy,e⟩=>by rw[<- (zmF hk).mp e];exact hy,λh=>aV! x h rfl⟩
theorem znR(v:i!):q! (scl k v)=I!:=by simp[scl]
end
noncomputable def zK(r:Rl)(ls:ff!):d9! Tb:=ls.dropLast.map (jx r)
theorem Run.ne(R:f8! v):a3! ls:=by cases R<;>simp
theorem Run.tabs_cons(h:f8! dt!):zK r (v::ls)=fN!::jC!:=by
 obtain⟨a,t,rfl⟩:=List.exists_cons_of_ne_nil eR!;rfl
noncomputable def kf(n:Nat)(ts:d9! Tb):Tb:=ts.foldl qV bu!
theorem Run.fairP(h:a2!)(R:f8! v):∀P,eW! P->z0a P->z0a ((jC!).foldl qV P):=by induction R with
 | done e=>simpa[zK] using f | step e R ih=>
  intro P hP f;rw[R.tabs_cons];exact ih (oY! e) _ (zdn hP (z0X r h e)) (zhj jy! hP (z0X r h e) f (zfM r h e))
theorem Run.fair(h:a2!)(R:f8! v):z0a hD!:=R.fairP h _ (z3A n) (y! (znw jy!))
theorem Run.prod(h:a2!)(R:f8! v)(I:PI n B P v x)(hx:∀y∈x,y<=B):∃z,ls.getLast? = b! z/\nm! z=c!/\Lot n z/\z2V z=f6!/\PI n B ((jC!).foldl qV P) z x:=by induction R generalizing P with
 | done e=>exact⟨_,by rfl,e,h,rfl,by exact I⟩ | step e R ih=>
  obtain⟨z,h1,h2,h3,h4,h5⟩:=ih (oY! e) (I.step r hx h e);refine⟨z,?_,h2,h3,by rw[h4,zfI r h e],?_⟩;·rw[List.getLast?_cons,h1];rfl
  ·rw[R.tabs_cons];exact h5
theorem Run.whole(h:a2!)(R:f8! v)(hx:∀y∈v,y<=B):∃z,ls.getLast? = b! z/\nm! z=c!/\Lot n z/\z2V z=f6!/\PI n B hD! z v:=R.prod h (PI.start h hx) hx
open Dd (lexN)
theorem zeo:∀{a b:List Int},a≠b->gK! b a=! gK! a b
 | [],[],h=>fe! h | [],_::_,_=>rfl | _::_,[],_=>rfl | x::a,y::b,h=>by
  by_cases e:x=y
  ·subst e;simp only[lexN,_v];exact zeo (λz=>h (by rw[z]))
  ·have e':¬ y=x:=λz=>e js!;simp only[lexN,e,e',_a1];by_cases l:x<y;·simp[l];lia
   ·simp[l];lia
theorem zgu:∀{a b c:List Int},gK! a b=c!->gK! b c=c!->gK! a c=c!
 | [],[],_,h,_=>by simp[lexN]at h | [],_::_,[],_,h=>by simp[lexN]at h | [],_::_,_::_,_,_=>rfl | _::_,[],_,h,_=>by simp[lexN]at h | _::_,_::_,[],_,h=>by simp[lexN]at h | x::a,y::b,z::c,h1,h2=>by
  simp only[lexN]at h1 h2 ⊢;by_cases e1:x=y
  ·subst e1;by_cases e2:x=z
   ·subst e2;simp only[_v]at h1 h2 ⊢;exact zgu h1 h2
   ·simp only[e2,_a1]at h2 ⊢;exact h2
  ·simp only[e1,_a1,_ay]at h1;by_cases e2:y=z
   ·subst e2;simp only[e1,_a1,_ay];exact h1
   ·simp only[e2,_a1,_ay]at h2;simp only[(show ¬ x=z from by lia),_a1,_ay];lia
abbrev Up(L:ff!):g!:=L.Pairwise λa b=>gK! a b=c!
end Pm
namespace Pg
open L2 Dd Pm
noncomputable abbrev iL(ns:i!):v!:=il!
theorem zud{i:Int} (h:hJ!<2 ^ m)(hm:m<=bH!):hJ!<BIG:=_j h (_C (by decide) (by lia))
theorem z3L(s:Sto)(ha:od!<2 ^ m)(hm:m<=bH!)(hb:b.natAbs<2 ^ k)(hk:k<=bH!):yS f2! e0! s=t! (a*b):=by rw[zfP,cd! (zud ha hm) (zud hb hk)]
theorem z67(s:Sto)(hb:0<b):zdO f2! e0! s=t! (a % b):=by rw[zoF,_i hb]
theorem zdv(s:Sto)(h:∀x∈xs,x=ew!):zfs [cq!] s=b3!:=by simp[zfs,zY,(show oc! xs=b! (nS! (bf! c!)) from by
  conv=>lhs;rw[(show xs=(nS! (bf! c!)).map D.bl from by
  rw[_ae];conv=>lhs;rw[<- List.map_id xs]
  exact _ao (ae! (h x hx)))]
  exact zap _)]
theorem z8k(s:Sto)(h:a3! ns):vy [p! (iL ns)] s=t! nx!:=by cases ns with
 | nil=>exact fe! h | cons n ns=>simp only[vy,zY,_N,vW]
theorem zl2(s:Sto)(h:a3! ns):z5K [p! (iL ns)] s=t! (minL ns):=by cases ns with
 | nil=>exact fe! h | cons n ns=>simp only[z5K,zY,_N,vW]
theorem zoK(s:Sto)(h:a3! ns):vy [e1! ns] s=t! nx!:=by cases ns with
 | nil=>exact fe! h | cons n ns=>simp only[vy,zY,_N,vW]
theorem zjy(h:a3! ns)(e:E! s l (iL ns)):vy [dK!] s=t! nx!:=by cases ns with
 | nil=>exact fe! h | cons n ns=>simp only[vy,zY,e,_N,vW]
theorem zi5(xs:v!)(s:Sto):gIs cV! ah! s=b3!:=U!
theorem zsT(x:Str)(s:Sto):gIs gc! aY! s=b3!:=U!
theorem z3t(xs:v!)(s:Sto)(h:2<=x!/\x!<=4):yR [ah!] s=b3!:=by simp[yR,Mof,qt,zv,zi5,yH,zY,(show h! 2<=x! from by lia),(show h! x!<=4 from by lia)]
theorem z0d(ns:i!) (s:Sto) (h:dv! eN!):ya [p! (iL ns),d! eN!] s=b3!:=by
 simp[ya,Mof,uS,zv,zi5,yH,zY];rw[zaA (λ_=>D.bl c!) (iL ns) [] (by intro x hx;obtain⟨n,_,rfl⟩:=iZ!;rfl) (by simp[cap];lia)];simp only[Rb,_av];rw[zdv s (by intro x hx;obtain⟨_,_,rfl⟩:=iZ!;rfl)];rfl
theorem vB{α:bL!} (g f:α->D):∀(l:List α)(acc:List D),(∀a∈l,body (g a) s=j! (b! (f a)))->jZ!+j0!<=cap->qF [] all dT! mO! acc s=j! (acc++mN!)
 | [],acc,_,_=>by simp[qF,okG] | x::xs,acc,hb,hl=>by
  rw[_u,qF];simp[okG,hb x (by simp),(show jZ!<cap from by simp at hl;lia),(vB (all:=all) g f xs (acc++[f x]) (cW! (hb y (by simp[hy]))) (by simp at hl ⊢;lia))]
theorem zlc(ns:i!)(s:Sto):zmd [e1! ns] s=t! ns.sum:=by simp only[zmd,zY,_N,vW]
theorem zw:∀(r v:List Int),kJ! (λa b=>a*b) r v=jE! r v (λp=>p.1*p.2)
 | [],_=>by rfl | _::_,[]=>by rfl | a::r,b::v=>by simp[zw r v]
theorem z99:∀(r v:List Int),z42 (iL r) ca!=jE! r v (iX! (bW! p.1 p.2))
 | [],_=>by rfl | _::_,[]=>by rfl | a::r,b::v=>by simp[z42,(z99 r v)]
theorem zbC(i j:Nat)(s:Sto):wd [aa!,d! j] s=t! (sg i j):=by
 simp[wd,Mof,z8j,zv,z67 s (show 0<2 by decide)];unfold sg;by_cases h:(i+j) % 2=0;·simp[h,(show (h! i+j) % 2=0 from by lia)]
 ·simp[h,(show ¬ (h! i+j) % 2=0 from by lia)]
theorem z3C(s:Sto)(hr:∀x∈r,do! m)(hv:∀x∈v,do! k)(hm:m<=bH!)(hk:k<=bH!)(hl:aK!<=4):xQ [p! (iL r),p! ca!] s=t! (eD! r):=by
 simp[xQ,Mof,z5H,zv,z8m,(z99 r v),-List.map_map];rw[vB _ (pu! (aD! (p.1*p.2))) _ [] (by
  intro p hp;simp[z3L s (hr p.1 (l6!).1) hm (hv p.2 (l6!).2) hk]) (by simp[cap];lia)];simp only[Rb,_av];rw[(show jE! r v (pu! (aD! (p.1*p.2)))=iL (jE! r v (λp=>p.1*p.2)) from by simp[_Q]),zlc];simp[dot,zw]
noncomputable abbrev rD(r:i!):D:=p! (iL r)
noncomputable abbrev tD(T:Tb):D:=p! nu!
theorem z9S(s:Sto)(h:Bd m T)(hv:∀x∈v,do! k)(hm:m<=bH!)(hk:k<=bH!)(hl:∀r∈T,aK!<=4)(hT:br!<=4):xC [tD T,p! ca!] s=bc! (iL (mv T v)):=by
 simp only[xC,Mof,z1F,zv,tD];simp[-List.map_map];rw[vB rD (λr=>aD! (eD! r)) T [] (by
  intro r hr;simp[(z3C s (h r hr) hv hm hk (hl r hr))]) (by simp[cap];lia)];simp[zU,zY,mv,_Q]
theorem z8h{j:Nat} (s:Sto)(h:E! xs j d):c1! ah! j s=j! d:=by
 have hj := cM! h;simp only[dIx,zY,atI,(show kQ! j=b! j from by
  unfold ixN;rw[_i (by lia),_i (by lia)];rfl),_N,h]
theorem zdr(hn:dv! n)(h:ar ρ s=M! [d! n]):jw ar ρ s=M! (ym n,[]):=by
 rw[zdX,h,Rb];simp only;rw[_i (by lia),_V]
theorem zvd{k:Nat} (s:Sto) (hk:∀r∈T,k<aK!) (hT:br!<=4):zt cN! b9! cj! zX (gq! 1) [cc! T,bk!] s=j! (e1! (oo! (λr=>cL! k))):=by
 simp[-List.map_map];rw[vB rD (λr=>aD! (cL! k)) T [] (by
  intro r cP;simp[(z8h (xs:=iL r) (j:=k) (d:=d! (cL! k)) s (by simp[_b (hk r cP),List.getD]))]) (by simp[cap];lia)];simp[_Q]
theorem zuB(s:Sto) (hr:∀r∈T,br!<=aK!) (hT:br!<=4): zt (jw (bI! ej!)) (ag! 0) cj! zX (eB! cN! b9! 1 (gq! 1)) [cc! T] s=bt! (bC! (ye T)):=by
 rw[ut,uJ,zdr (n:=T.length) (s1:=s) (by lia) (by simp[yH,zY]),Rb];simp only[ym];rw[vB (fW! k) (λk:Nat=>rD (oo! (λr=>cL! k))) (mb! br!) [] (by
  intro k hk;rw[va,Rb,z3u,Rb,yg,zy,show (wZ (ag! 0) [cc! T]).set 1 bk!=[cc! T,bk!] from rfl,zvd s (λr cP=>_j (by simpa using hk) (hr r cP)) hT];rfl) (by simp[cap];lia)];simp[ye,_Q]
theorem zsn(s:Sto)(x:v!)(h:zt (jw (bI! ej!)) (ag! 0) cj! zX (eB! cN! b9! 1 (gq! 1)) cQ! s=bt! x):yQ [d] s=bc! x:=by
 have st:zv [eq!] [d]=cQ!:=rfl;simp only[yQ,Mof,z2a,st,_h,_l,_v,z1d,yf,yg,zy,h,Rb,zP,zU,zY]
theorem z3I(s:Sto)(hr:∀r∈T,br!<=aK!)(hT:br!<=4):yQ [tD T] s=gY! (ye T):=zsn s _ (zuB s hr hT)
theorem zfj(s:Sto) (hn:a9!) (h:gZ!):vL [tD T] s=b3!:=by
 have hl:=h.len;refine (λd h1 h2=>by
  have st:zv cY! [d]=cQ!:=rfl;simp only[vL,Mof,z6x,st,_v];rw[zm (ρ':=cQ!) (s':=s) (by simp[h1])];simp only[z4q,yf,yg,zy,h2,Rb,zP];rw[zdv s (by intro x hx;obtain⟨_,_,rfl⟩:=iZ!;rfl)];rfl:∀d:D,yR [d] s=b3!->zt cN! (ag! 0) cj! zX (ze ya (aQ! n! ej!)) cQ! s=bt! (oo! (λ_=>D.bl c!))->vL [d] s=b3!) _ (z3t nu! s (by simp[hl];lia)) ?_;rw[ut,uJ];simp only[jm,yi,_c,Rb];rw[vB rD (λ_=>D.bl c!) T [] (by
  intro r hr;have hw:=z0d r s (by have:=jx! r hr;lia);rw[jx! r hr,<- hl]at hw;simp[yH,zY,hw]) (by simp[cap];lia)];rfl
theorem z0r(s:Sto)(hn:a9!)(h:gZ!):yF [tD T] s=fh!:=(λd h1=>by simp[yF,Mof,z2f,zv,h1]:∀d:D,vL [d] s=b3!->yF [d] s=fh!) _ (zfj s hn h)
theorem ztv{d e c:D}{cs:ff!}(s:Sto)(f:i!->D)(hc:yQ [e] s=bc! (cs.map rD))(h:∀r∈cs,xC [d,rD r] s=j! (f r))(hl:cs.length<=4): zt (zT (cy! yQ 1)) (ag! 0) cj! zX (cU! xC) hp! s=bt! (cs.map f):=by
 rw[ut,uJ];simp only[jm,yg,zy,zP,yi,_c,_d,Rb,hc];rw[vB rD f cs [] (by
  intro c hc;simp only[va,Rb,z3u,_v,jy,jD,_c,_aD,_L,_E,_d,h c hc]) (by simp[cap];lia),Rb,_av]
theorem zsI(s:Sto) (h1:yF [d] s=fh!) (h2:yF [e] s=fh!) (h3:yH [d] s=t! n) (h4:yH [e] s=t! n) (h5:zt (zT (cy! yQ 1)) (ag! 0) cj! zX (cU! xC) hp! s=bt! x) (h6:yQ [p! x] s=j! f):wW [d,e] s=j! f:=by
 have st:zv mP! [d,e]=hp!:=rfl;simp only[wW,Mof,z2C,st,_h,_l,_v];rw[zm (ρ':=hp!) (s':=s) (by simp[h1]),zm (ρ':=hp!) (s':=s) (by simp[h2]),zm (ρ':=hp!) (s':=s) (by simp[h3,h4])];simp only[z1G,yf,yg,zy,h5,Rb,zP];rw[(show zU [ad! x] s=bc! x from by rfl),Rb,Rb,h6,Rb]
theorem zam(s:Sto)(hn:a9!)(ha:h7!)(hb:eW! B)(hA:Bd m A)(hB:Bd k B)(hm:m<=bH!)(hk:k<=bH!):wW [tD A,tD B] s=gY! (qV A B):=by
 have w2:=z0r s hn hb;have c1:=z3I s (c9! (by rw[hb.row r hr,hb.len];lia)) (by rw[hb.len];lia);have lc:q! (ye B)=n:=by simp[ye,hb.len]
 have g2:yH [tD B] s=t! n:=by simp[yH,zY,hb.len]
 refine zsI s (z0r s hn ha) w2 (by simp[yH,zY,ha.len]) g2 (ztv (c:=aJ!) s (λr=>rD (mv A r)) c1 (c9! (z9S s hA (zlZ hB r hr) hm hk (ha.le hn) (by rw[ha.len];lia))) (by lia)) ?_;rw[(show (ye B).map (λr=>rD (mv A r))=bC! ((ye B).map (mv A)) from by rw[_ae];rfl)];exact (z3I (T:=(ye B).map (mv A)) s (c9! (by
  obtain⟨c,_,rfl⟩:=jI!;simp[mv,ha.len,lc])) (by simp[lc];lia))
theorem z32(xs:v!)(i:Nat)(s:Sto):dSl ah! a! (b! (h! i)) s=bc! (m7! i):=by simp only[dSl,(show Dd.cutD xs a! h0!=m7! i from by
  unfold Dd.cutD;rw[HT.zdu,HT.zgJ];simp[List.take_eq_take_min])]
theorem z1O(xs:v!)(i:Nat)(s:Sto):dSl ah! (b! (h! i)) a! s=bc! (lk! i):=by simp only[dSl,(show Dd.cutD xs h0! a!=lk! i from by
  unfold Dd.cutD;rw[HT.zdu,HT.zgJ];by_cases h:i<=x!
  ·rw[Nat.min_eq_left h];exact List.take_of_length_le (by simp)
  ·rw[Nat.min_eq_right (by lia)];simp[List.drop_of_length_le (show x!<=i by lia)])]
theorem zkL{f g h:FE} {j:Nat}(hf:aM!=j! ah!)(hg:g ρ s=t! j)(hl:dv! x!): eOp yW (gu! f g) (e2! f (bd! g ao!)) ρ s=bc! (m7! j++lk! (j+1)):=by
 have e2:=z1O xs (j+1) s;rw[show ((j+1:Nat))=h! j+1 from rfl]at e2;simp only[yy,zbB,jF,z1J,z0Z,hf,hg,Rb,z65,(z32 xs j s),e2,z3X,_i (show q! (m7! j)+q! (lk! (j+1))<=cap from _H (_bB (List.length_take_le' ..) (by rw[_ax];exact Nat.sub_le ..)) (_H (_bB hl hl) (by decide)))]
theorem zaX(i j:Nat) (s:Sto) (hT:br!<=4) (hr:∀r∈T,aK!<=4):xK [tD T,aa!,d! j] s=gY! (e9! i j):=by
 have h0:=zkL (f:=o!) (g:=n!) (h:=o!) (ρ:=fE! (tD T) aa! aH!) (s:=s) (xs:=nu!) (j:=i) (by rfl) (by rfl) (by simp;lia);have:=(λd K h hK oF=>by
  have st:zv [jv!,"at_line",qK!,"kept"] [d,aa!,d! j]=fE! d aa! aH!:=rfl;simp only[xK,Mof,z8E,st,_h,_l,_v];rw[zm (ρ':=[k!,ch!,aH!,b! (p! (pv! rD))]) (s':=s) (by rw[z6d,zN,h];rfl)];have c:zt (zT ba!) (ag! 2) cj! zX (bd! (gu! n! o!) (e2! n! (gt! 0))) [k!,ch!,aH!,b! (p! (pv! rD))] s=bt! (pv! (λr=>rD (qT! j++n4! (j+1)))):=by
   rw[ut,uJ];simp only[jm,yi,_c,_d,Rb];rw[vB rD (λr=>rD (qT! j++n4! (j+1))) K [] (by
    intro r cP;simp only[va,Rb,z3u,jy,jD,qI,_c,_d,_aD,_L,_E];rw[(zkL (f:=n!) (g:=o!) (h:=o!) (ρ:=[aH!,b1! r]) (s:=s) (xs:=iL r) (j:=j) (by rfl) (by rfl) (by have:=oF r cP;simp;lia)),Rb];simp[_aU]) (by simp[cap];lia),Rb,_av]
  rw[z6s,yf,yg,zy,c,Rb,zP,Rb,Rb,(show zU [ad! (pv! (λr=>rD (qT! j++n4! (j+1))))] s=bc! (pv! (λr=>rD (qT! j++n4! (j+1)))) from by rfl),Rb]:∀(d:D) (K:Tb),(bd! (gu! o! n!) (e2! o! (gt! 1))) (fE! d aa! aH!) s=bc! (pv! rD)->K.length<=4->(∀r∈K,aK!<=4)-> xK [d,aa!,d! j] s=bc! (pv! (λr=>rD (qT! j++n4! (j+1))))) (tD T) (T.take i++T.drop (i+1)) (by rw[h0];simp[_cn,_aU]) (by simp;lia) (λr cP=>hr r ((c9! (mK! hr _S _aC)) r cP));rw[this];simp[z1T,_Q]
theorem zcE(r:i!):z1Y 0 (iL r)=aR! aK! (λ(j:Nat)=>gJ! (bW! (h! j) (cL! j))):=by
 apply _dc;intro k;by_cases h:k<aK!
 ·have h1:k<q! (z1Y 0 (iL r)):=by rw[qR];simpa using h
  obtain⟨x,e1,e2⟩:=z9B (_b h1);rw[_b h1,e2];simp only[_A,_b h,_ag,_y]at e1;rw[<- e1];simp[h,List.getD]
 ·rw[_M (by rw[qR];simp;lia),_M (by simp;lia)]
theorem qM{j:Nat}(s:Sto)(h:j<aK!):c1! (rD r) (h! j) s=t! (cL! j):=z8h s (by simp[_b h,List.getD])
theorem zk5(i j:Nat):bg! (sg i j)<2 ^ 1:=by rw[zgk];decide
theorem z5Z(hm:m<=400):∀(k:Nat) (T:Tb) (s:Sto),br!<=k->1<=br!->br!<=4->(∀r∈T,aK!=br!)->Bd m T->yC k [tD T] s=t! (det k T)
 | 0,T,s,h0,h1,_,_,_=>by lia | k+1,T,s,h0,h1,h4,hr,hb=>by
  have ih:=λU oG oH oI oJ oK=>z5Z hm k U s oG oH oI oJ oK;have lB:jK! 0∈T:=by rw[List.getD,_b (by lia)];exact _G _
  have l0:=hr _ lB;have b0:=hb _ lB;have gl:yH [tD T] s=t! br!:=by simp[yH,zY]
  have i0:c1! (tD T) 0 s=j! (rD (jK! 0)):=by exact (z8h (xs:=nu!) (j:=0) (d:=rD (jK! 0)) s (by simp[_b (show 0<br! by lia),List.getD]))
  have st:∀d:D,zv [jv!] [d]=cQ!:=bf! rfl;by_cases he:br!=1
  ·have key:∀(d e:D) (x:Int),yH [d] s=t! 1->c1! d 0 s=j! e->c1! e 0 s=t! x->yC (k+1) [d] s=t! x:=λd e x a1 a2 a3=>by
    rw[yC];simp only[Mof,z0z,st,_h,_l,_v];rw[z0I (d:=d! x) (s':=s) (by simp[a1,a2,a3])]
   rw[key (tD T) _ _ (by rw[gl,he];rfl) i0 (qM (j:=0) s (by lia)),det,_i he]
  ·have en:=zcE (jK! 0);rw[l0]at en;have wl:∀j,q! (e9! 0 j)=br!-1:=λj=>z5p (by lia);have wr:∀j,j<br!->∀r∈e9! 0 j,aK!=q! (e9! 0 j):=λj hj r cP=>by
    rw[wl];obtain⟨q,hq,rfl⟩:=_t.mp cP;have:=hr q (mK! hq _S _aC);simp;lia
   have fL:∀j∈mb! br!,wd (bW! 0 j) s=t! (sg 0 j)/\xK [tD T,c4!,d! j] s=gY! (e9! 0 j)/\yC k [tD (e9! 0 j)] s=t! (det k (e9! 0 j))/\ yS (d! (sg 0 j)) (d! (bj! (jK! 0) j)) s=t! (sg 0 j*bj! (jK! 0) j)/\yS (d! (sg 0 j*bj! (jK! 0) j)) (d! (det k (e9! 0 j))) s=t! (sg 0 j*bj! (jK! 0) j*det k (e9! 0 j)):=λj hj=>by
    have s1 := zbC 0 j s;have s3:=ih (e9! 0 j) (by rw[wl];lia) (by rw[wl];lia) (by rw[wl];lia) (wr j (by simpa using hj)) (z3v hb 0 j);have b1:=z5T b0 j;have b2:=zdE k (e9! 0 j) (z3v hb 0 j) (by rw[wl];lia) (by rw[wl];lia);have m1:=z3L s (zk5 0 j) (by decide) b1 (by lia);have m2:=z3L s (zcf (zk5 0 j) b1) (by lia) (_j b2 (_C (by decide) (by
     rw[wl];have:(br!-1)*m<=3*m:=_aB _ (by lia);lia))) al!;exact⟨s1,(zaX 0 j s h4 (λr cP=>by rw[hr r cP];exact h4)),s3,m1,m2⟩
   rw[det,_q he];refine (λd e n a1 a2 a3 x a4=>by
    rw[yC];simp only[Mof,z0z,st,_h,_l,_v];rw[zm (ρ':=cQ!) (s':=s) (by simp[a1,a2])];rw[z2l,yf,yg,zy,a3,Rb,zP,Rb,Rb,a4,Rb]:∀(d e:D) (n:Int),yH [d] s=t! n->n≠1->(lW! (z20 (bI! (gX! 0))) (dI! 0) (yM 1 2) (jf! (jf! (eU! wd C! 1) H!) (a0! (yC k) (ze xK (zb o! (cn! C! 1)))))) cQ! s=j! e-> ∀x,zmd [e] s=t! x->yC (k+1) [d] s=t! x) (tD T) (e1! (aR! br! (λj=>sg 0 j*bj! (jK! 0) j*det k (e9! 0 j)))) br! gl (by lia) ?_ _ (zlc _ s);rw[ut,uJ];simp only[znr,zy,zP,yy,yi,z0Z,_c,Rb,i0,z8m];rw[en];rw[vB (λj:Nat=>gJ! (bW! j (bj! (jK! 0) j))) (λj:Nat=>aD! (sg 0 j*bj! (jK! 0) j*det k (e9! 0 j))) (mb! br!) [] (by
    intro j hj;obtain⟨s1,s2,s3,m1,m2⟩:=fL j hj;simp only[z8O,Rb,z3u,_v,jy,jD,qI,_c,_d,_aD,_L,_E,yy,yg,zy,zP,z0Z,yi,s1,s2,s3,m1,m2]) (by simp[cap];lia)];simp[_Q]
theorem ze4(s:Sto)(hn:n=1\/a9!)(h:gZ!)(hb:Bd m T)(hm:m<=400):xy [tD T] s=t! (eE! T):=by
 have hl:=h.len;exact z5Z hm 4 T s (by lia) (by lia) (by lia) (c9! (by rw[jx! r hr,hl])) hb
theorem zbr(s:Sto) (hn:a9!) (h:gZ!) (hb:Bd m T) (hm:m<=400):wY [tD T] s=t! (eE! T):=by
 have w1:=z0r s hn h;exact (λd x a1 a2=>by
  have st:zv [eq!] [d]=cQ!:=rfl;simp only[wY,Mof,z2d,st,_h,_l,_v];rw[zm (ρ':=cQ!) (s':=s) (by simp[a1])];simp only[jv,yf,yg,zy,zP,yi,_c,Rb,a2]:∀(d:D) (x:Int),yF [d] s=fh!->xy [d] s=t! x->wY [d] s=t! x) _ _ w1 (ze4 s (Q! hn) h hb hm)
theorem z5e(h:gZ!)(hi:i<n)(hj:j<n):Tab (n-1) (e9! i j):=by
 refine⟨by rw[z5p (by rw[h.len];exact hi),h.len],c9! ?_⟩;obtain⟨q,hq,rfl⟩:=jI!;have:=jx! q (mK! hq _S _aC);exact a4! (zfz (this ▸ hj)) (by rw[this])
theorem tbE(s:Sto)(hn:a9!)(h:gZ!)(hb:Bd m T)(hm:m<=400)(ht:t.natAbs<2 ^ 1)(hi:i<n)(hj:j<n): (jf! (hz! 0 (eU! wd n! 3)) (a0! xy (ze xK (zb H! (cn! ba! 1))))) [e! t,e! (h! i),cc! T,e! (h! j)] s=t! (t*sg i j*eE! (e9! j i)):=by
 have s1:=zbC i j s;have s2:=zaX j i s (by rw[h.len];lia) (h.le hn);have s3:=ze4 s (by lia) (z5e h hj hi) (z3v hb j i) hm;have b2:=zdE 4 (e9! j i) (z3v hb j i) (by rw[(z5e h hj hi).len];lia) (by rw[(z5e h hj hi).len];lia);simp only[yy,yg,zy,zP,yi,_c,_d,Rb,s1,s2,s3,(z3L s ht (by decide) (zk5 i j) (by decide)),(z3L s (zcf ht (zk5 i j)) (by decide) (_j b2 (_C (by decide) (by
  rw[(z5e h hj hi).len];have:(n-1)*m<=3*m:=_aB _ (by lia);lia))) al!)]
theorem tbI(s:Sto) (hn:a9!) (h:gZ!) (hb:Bd m T) (hm:m<=400) (ht:t.natAbs<2 ^ 1) (hi:i<n): zt cN! (hy! 1 3 2) (yh 3) zX (jf! (hz! 0 (eU! wd n! 3)) (a0! xy (ze xK (zb H! (cn! ba! 1))))) [L! (ym n),e! t,cc! T,e! (h! i)] s= j! (e1! (aR! n (λj=>t*sg i j*eE! (e9! j i)))):=by
 rw[ut,uJ];simp only[jm,yi,_c,Rb,ym];rw[vB (fW! k) (λj:Nat=>aD! (t*sg i j*eE! (e9! j i))) iV! [] (by
  intro j hj;simp only[va,Rb,z3u,_v,jy,jD,qI,_c,_d,_aD,_L,_E];rw[(tbE s hn h hb hm ht hi (by simpa using hj)),Rb]) (by simp[cap];lia)];simp[_Q]
theorem tbO(s:Sto) (hn:a9!) (h:gZ!) (hb:Bd m T) (hm:m<=400) (ht:jG! 4 T<2 ^ 1): zt (zT H!) (hy! 2 1 0) (yh 3) zX (eB! cN! (hy! 1 3 2) 3 (jf! (hz! 0 (eU! wd n! 3)) (a0! xy (ze xK (zb H! (cn! ba! 1)))))) [cc! T,e! (eE! T),L! (ym n)] s=bt! (bC! (gL! T)):=by
 rw[ut,uJ];simp only[jm,yi,_c,_d,Rb];rw[show ym n=aR! n (fW! k) from rfl,vB (fW! k) (λi:Nat=>rD (aR! n (λj=>eE! T*sg i j*eE! (e9! j i)))) iV! [] (by
  intro i hi;have q:=tbI s hn h hb hm ht (by simpa using hi);rw[show ym n=aR! n (fW! k) from rfl]at q;simp only[va,Rb,z3u,_v,jy,jD,qI,_c,_d,_aD,_L,_E];rw[yg,zy,q,Rb,zP,Rb,Rb,(λx=>by rfl:∀x:List D,zU [ad! x] s=bc! x),Rb]) (by simp[cap];lia),Rb,_av];simp only[back,h.len,_ae,_Q]
theorem z8Q(s:Sto) (hn:a9!) (h:gZ!) (hb:Bd m T) (hm:m<=400) (hf:z0a T):uX [tD T] s=gY! (gL! T):=by
 have w1:=zbr s hn h hb hm;have c:=tbO s hn h hb hm (by rcases hf with e | e<;>rw[e]<;>decide);exact (λd t x a1 a2 a3 a4=>by
  have st:zv [eq!,ok!,lB!] [d]=dI! d:=rfl;simp only[uX,Mof,z1q,st,_h,_l,_v];rw[zm (ρ':=[k!,e! t,a!]) (s':=s) (by simp[a1]),zm (ρ':=[k!,e! t,a!]) (s':=s) (by rcases a2 with rfl | rfl<;>rfl),zm (ρ':=[k!,e! t,L! (ym n)]) (by
   simp only[qA,zN,zoN,zy,zP,yg,yi,_c,Rb,a3,_i (show h! 0<=n/\h! n<=ft! from by lia),_V];rfl)];rw[qu,yf,yg,zy,a4,Rb,zP,Rb,Rb,(show zU [ad! x] s=bc! x from by rfl),Rb]:∀(d:D) (t:Int) (x:List D),wY [d] s=t! t->(t=1\/t=-1)->yH [d] s=t! n->zt (zT H!) (hy! 2 1 0) (yh 3) zX (eB! cN! (hy! 1 3 2) 3 (jf! (hz! 0 (eU! wd n! 3)) (a0! xy (ze xK (zb H! (cn! ba! 1)))))) [k!,e! t,L! (ym n)] s=bt! x->uX [d] s=bc! x) _ _ _ w1 hf (by simp[yH,zY,h.len]) c
theorem z2k{α:bL!} (g f:α->D)(p:eC! α):∀(l:List α)(acc:List D),(∀a∈l,body (g a) s=j! (aF! (p a) (b! (f a)) a!))->jZ!+j0!<=cap->qF [] all dT! mO! acc s=j! (acc++(l.filter p).map f)
 | [],acc,_,_=>by simp[qF,okG] | x::xs,acc,hb,hl=>by
  rw[_u,qF,_i (by intro p hp;cases hp),hb x (by simp)];cases hp:p x with
  | true=> simp[(show jZ!<cap from by simp at hl;lia),(z2k (all:=all) g f p xs (acc++[f x]) (cW! (hb y (by simp[hy]))) (by simp at hl ⊢;lia)),hp] | false=> simp[(z2k (all:=all) g f p xs acc (cW! (hb y (by simp[hy]))) (by simp at hl ⊢;lia)),hp]
theorem xX{α:bL!} (g f:α->D)(p:eC! α)(ev:α->Ev)(l:ex!) (hi:fi ρ s=j! (mO!,[]))(hg:∀a∈l,fg (g a) (wZ mp ρ) s=j! (ev a))(ht:∀a∈l,ft (ev a) s=j! (p a))(he:∀a∈l,p a=c!->fe (ev a) s=j! (f a))(hl:j0!<=cap): zt fi mp fg ft fe ρ s=bt! ((l.filter p).map f):=by
 rw[ut,uJ,hi,Rb,z2k g f p l [] (by
  intro a ha;simp only[hg a ha,ht a ha,Rb];cases hp:p a with
  | true=>simp[he a ha hp] | false=>rfl) (by simpa using hl)];rfl
theorem comp_map{α:bL!} (g f:α->D)(ev:α->Ev)(l:ex!) (hi:fi ρ s=j! (mO!,[]))(hg:∀a∈l,fg (g a) (wZ mp ρ) s=j! (ev a))(he:∀a∈l,fe (ev a) s=j! (f a))(hl:j0!<=cap): zt fi mp fg zX fe ρ s=bt! mN!:=by
 have:=xX (ft:=zX) g f (bf! c!) ev l hi hg (λa _=>rfl) (λa ha _=>he a ha) hl;rw[(_bO.mpr (by simp))]at this;exact this
theorem z2K(h:aM!=j! ah!):zT f ρ s=j! (xs,[]):=by simp[h]
theorem qN(h:aM!=j! cq!):zT f ρ s=j! (xs,[]):=by simp[h]
structure LotB(n m:Nat)(v:i!):g! extends a2! where bd:∀x∈v,x<2 ^ m
theorem LotB.abs{n m:Nat}{v:i!}(h:e5!):∀x∈v,do! m:=ae! (by
 have:h! iS!<Z! (2 ^ m):=by rw[(_bC (h.nn x hx))];exact (h.bd x hx)
 lia)
theorem LotB.toN(h:e5!):∀x∈v,og!<2 ^ m:=ae! (by
 have h1:=h.abs x hx;lia)
theorem _root_.Pm.Lot.le4(h:a2!):I!<=4/\2<=I!:=by have:=h.len;have:=h.sz;lia
theorem zdU(h:a2!)(s:Sto):yZ gD! s=b3!:=by
 have l4:=h.le4;have h1:=z3t ca! s (by simp;lia);have h2:=z0d v s (by lia);have g1:=z8k s eR!;have g2:=zl2 s eR!;have mx:0<i5!:=by obtain⟨x,hx,h0⟩:=h.pos;have:=ob! x hx;lia
 exact (λd a1 a2 a3 a4 a5=>by simp[yZ,Mof,z5Q,zv,a1,a2,a3,a4,a5,(h.nn _ (rD! eR!)),mx]:∀d:D,yR [d] s=b3!->yH [d] s=t! I!->ya [d,d! I!] s=b3!->vy [d] s=t! i5!->z5K [d] s=t! (minL v)->yZ [d] s=b3!) _ h1 (by simp[yH,zY]) h2 g1 g2
theorem z12(h:a2!)(s:Sto):xn gD! s=fh!:=by exact (λd a1=>by simp[xn,Mof,z6L,zv,a1]:∀d:D,yZ [d] s=b3!->xn [d] s=fh!) _ (zdU h s)
theorem nzC{mp:eY!}(hf:aM!=j! az!)(hl:I!<=4):zt (zT f) [a!] (yh 0) (eg! 0 C!) o! ρ s=j! (e1! (nz v)):=by
 rw[xX pd! pd! (λx=>cK! x 0) (λx=>[e! x]) v (z2K hf) (λa _=>by rfl) (λa _=>by simp) (λa _ _=>by rfl) (by simp[cap];lia)];rfl
theorem z5z(h:a2!) (s:Sto):xB gD! s=bz! nw!:=by exact (λd a1 a2=>by
  have st:zv hX! [d]=cQ!:=rfl;simp only[xB,Mof,z3Q,st,_h,_l,_v];rw[zm (ρ':=cQ!) (s':=s) (by simp[a1])];simp only[z2w,yf,yy,yg,zy,zP,z0Z,a2,Rb];simp only[yH,zY,Rb,zaR,_z];have:bw! (h! (ho! v)=1)=nw!:=by
   unfold ended;by_cases e:ho! v=1;·simp[e]
   ·have:¬ h! (ho! v)=1:=by lia
    simp[e,this]
  rw[this]:∀d:D,xn [d] s=fh!->zt cN! [a!] (yh 0) (eg! 0 C!) o! cQ! s=j! (e1! (nz v))->xB [d] s=bz! nw!) _ (z12 h s) (nzC (mp:=[]) (by rfl) (q1!).1)
theorem zgP(hb:0<b):cg b (a % b)=cg a b:=by
 have e:=_bv a b;refine _dA (by simp[cg]) (by simp[cg]) ?_ ?_
 ·have h1:cg b (a % b) ∣ b:=_dz ..;have h2:cg b (a % b) ∣ a % b:=_db ..;refine Int.dvd_coe_gcd ?_ h1;have h3:=Int.dvd_add (_bS h1 (Int.dvd_mul_right b (a / b))) h2;rwa [e]at h3
 ·have h1:cg a b ∣ a:=_dz ..;have h2:cg a b ∣ b:=_db ..;refine Int.dvd_coe_gcd h2 ?_;have:a % b=a-b*(a / b):=by lia
  rw[this];exact Int.dvd_sub h1 (_bS h2 (Int.dvd_mul_right ..))
theorem zhs(h:0<=a):cg a 0=a:=by
 unfold cg;rw[Int.gcd_zero_right];lia
theorem zek(s:Sto):∀(k:Nat)(a b:Int),0<=a->0<=b->pe!<k-> wO (eg! 1 C!) vR k [e! a,a7!] s=aO! [e! (cg a b),e! 0]
 | 0,a,b,_,_,h=>by lia | k+1,a,b,ha,hb,h=>by
  rw[wO];by_cases e:b=0
  ·subst e;simp[zhs ha]
  ·have b0:0<b:=by lia
   have m:=z67 (a:=a) s b0;have h1:=_a9 a (show b≠0 by lia);have h2:=_bm a b0;have ih:=zek s k b (a % b) hb h1 (by lia);have e1:tOf (et! dNe 1 C!) [e! a,a7!] s=j! c!:=by simp[e]
   have e2:vR [e! a,a7!] s=aO! [a7!,e! (a % b)]:=by simp[m]
   rw[e1,Rb,gU!,e2,Rb];show wO _ _ k _ s=_;rw[ih,zgP b0]
theorem z5O(ha:0<=a)(hb:0<=b)(s:Sto):vp [f2!,e0!] s=t! (cg a b):=by
 have st:zv mP! [f2!,e0!]=[e! a,a7!]:=rfl;simp only[vp,Mof,kU,_v];rw[zm (by rw[jB];exact z2B (zek s (pe!+1) a b ha hb (by lia)) (by simp))];rfl
theorem z5X(s:Sto)(x y:fD!):∀(v:List Int)(a:Int)(all:List D)(z:Option D),0<=a->(∀x∈v,0<=x)->∃z',yL [] all (ee! (yh 2 d ρ s) (z2Y ρ' s')) ca! [x,e! a,z] s=aO! [x,e! (oO! a),z']
 | [],a,all,z,_,_=>⟨z,by simp[yL,okG]⟩ | b::v,a,all,z,ha,hv=>by
  have hb:=hv b (by simp);obtain⟨z',ih⟩:=z5X s x y v (cg a b) all a7! (by simp[cg]) λw hw=>hv w (by simp[hw]);refine as! z' ?_;have c2:=z5O ha hb s;simp only[_u,yL];rw[_i (by intro p hp;cases hp)];simp only[iL]at ih;have e2:z2Y [x,e! a,a7!] s=aO! [x,e! (cg a b),a7!]:=by simp[c2]
  rw[va,Rb];simp only[_L,_E];rw[e2,Rb];exact ih
theorem zjH(h:a2!) (s:Sto):z5i gD! s=t! f6!:=by
 have h1:=z12 h s;have key:∀d:D,xn [d] s=fh!->(∀z,zT o! [k!,e! 0,z] s=j! (ca!,[]))->z5i [d] s=t! f6!:=λd a1 a2=>by
  have st:zv [aB!,"divisor",iQ!] [d]=dI! d:=rfl;simp only[z5i,Mof,zbe,st,_v];rw[zm (ρ':=dI! d) (s':=s) (by simp[a1])];rw[zm (ρ':=fm! d c4!) (s':=s) (by rfl)];obtain⟨z',e⟩:=z5X s k! a! v 0 ca! a! (by lia) fT!;rw[zm (by rw[z3x,qE,a2,Rb];exact e)];rfl
 exact key _ h1 λz=>z2K (by rfl)
end Pg
namespace Pg
open L2 Dd Pm
def nmR:Rl->Str | .nx=>"next" | .le=>"least" | .al=>jh! | .tu=>gb!
theorem zgf(h1:fo ρ s=j! az!)(h2:fv ρ s=t! k)(hk:k∈v):zlH fo fv ρ s=t! (qV! k:Nat):=by simp only[zoz,h1,h2,Rb,vW,_i hk]
theorem z8v(h:a2!) (s:Sto):zV gD! s=bc! [d! (a8!:Nat),rD cX!]:=by
 have l4:=h.le4;have g1:=z8k s eR!;exact (iM! (by
  have st:zv [aB!,"at"] [d]=ag! d:=rfl;have gm:vy [d] s=t! i5!:=by rw[hd];exact g1
  have i1:zlH o! (a6! vy) [k!,a!] s=t! a8!:=zgf (by simp[hd]) (by exact gm ..) (kE! eR!);simp only[zV,Mof,vG,st,_h,_l,_v];rw[zm (ρ':=[k!,dr!]) (s':=s) (by rw[ve,zN,i1];rfl)];have e2:=z1O ca! (a8!+1) s;rw[show ((a8!+1:Nat))=h! a8!+1 from rfl]at e2;simp only[vh,yf,z22,zy,zP,yi,yy,zbB,jF,z1J,z0Z,_c,_d,Rb,z65,hd,(z32 ca! a8! s),e2];rw[_i (by decide),Rb,z3X,_i (by simp[cap];omega),Rb,e2,Rb,z3X,_i (by simp[cap];omega),Rb,Rb,Rb,_i (by simp[cap])];simp[others,_aU]):∀d:D,d=az!->zV [d] s=bc! [d! a8!,rD cX!]) _ rfl
theorem z2H(h:nz v≠[]) (hl:I!<=4) (s:Sto):xc gD! s=t! (dn!:Nat):=by
 exact (iM! (by
  have st:zv hX! [d]=cQ!:=rfl;have gm:z5K [e1! (nz v)] s=t! (i4! v):=by
   obtain⟨a,t,e⟩:=List.exists_cons_of_ne_nil h;rw[e];simp only[z5K,zY,_N,iL];rw[vW]
  simp only[xc,Mof,z1c,st,z0F,yf];rw[zgf (by simp[hd]) (by rw[yg,zy,(nzC (mp:=[]) (f:=o!) (ρ:=cQ!) (s:=s) (by simp[hd]) hl)];exact gm ..) (rZ! h).1];rfl):∀d:D,d=az!->xc [d] s=t! dn!) _ rfl
noncomputable abbrev nL(l:jJ!):v!:=of! (λi=>aD! (Z! i))
theorem zbi{v:i!} (p:Nat) (hl:I!<=4) (s:Sto):uA [az!,d! (p:Nat)] s=bt! (nL (wC v p)):=by
 exact (iM! (by
  have st:zv [aB!,qL!] [d,d! p]=[k!,e! p]:=rfl;simp only[uA,Mof,z7Z,st,z6e,yf];rw[xX (λi:Nat=>aD! (Z! i)) (λi:Nat=>aD! (Z! i)) (λi=>cK! i p) (λi=>[e4! p,e4! i]) pI! (by
   rw[zdr (n:=v.length) (s1:=s) (by omega) (by simp[hd])];rfl) (λa _=>by rfl) (λa _=>by
   have:bw! (h! a≠dX! p)=cK! a p:=by
    by_cases e:a=p;·simp[e]
    ·have:¬ h! a=dX! p:=by omega
     simp[e,this]
   simp only[wT,yy,yi,_d,_c,Rb,zcm,this]) (λa _ _=>by rfl) (by simp[cap];omega)];rfl):∀d:D,yH [d] s=t! I!->uA [d,d! p] s=bt! (nL (wC v p))) _ (by simp[yH,zY])
noncomputable abbrev z6Q(d:Nat×jJ!):D:=p! [d! d.1,ad! (nL d.2)]
theorem zfK(h:a2!) (s:Sto):qm gD! s=j! (z6Q (no! .nx)):=by
 have ne:a3! cX!:=λz=>by
  have:=wq eR!;rw[z]at this;exact h.ne (_aX.mp this.symm)
 have g1:=z8k s ne;exact (λd e he hg=>by
  have st:zv [aB!,qM!,qN!] [d]=dI! d:=rfl;have gm:vy [e] s=t! hk!:=by rw[he];exact g1
  simp only[qm,Mof,z88,st,_v];rw[zm (ρ':=[k!,dr!,z!]) (s':=s) (by simp[hg])];simp only[z6T,yf,z22,zy,(zgf (by simp[he]) (by exact gm ..) (kE! ne):zlH H! (cy! vy 2) [k!,e4! a8!,z!] s=t! ((cX!).idxOf hk!:Nat)),_d];rfl:hM! (e=rD cX!->zV [d] s=bc! [d! a8!,e]->qm [d] s=j! (z6Q (no! .nx)))) _ _ rfl (z8v h s)
theorem zfg(h:a2!) (he:en!) (s:Sto):vQ gD! s=j! (z6Q (no! .le)):=by
 have g:=z8v h s;exact (λd e he hg=>by
  have st:zv [aB!,qM!,qN!] [d]=dI! d:=rfl;simp only[vQ,Mof,z6K,st,_v];rw[zm (ρ':=[k!,e4! a8!,z!]) (s':=s) (by simp[hg])];simp[he,cap,deal]:hM! (xc [e] s=t! (lp cX!:Nat)->zV [d] s=bc! [d! (a8!:Nat),e]->vQ [d] s=j! (z6Q (no! .le)))) _ _ (z2H (jE h he) (by rw[wq eR!];exact (q1!).1) s) g
theorem zjE(h:a2!) (s:Sto):kg gD! s=j! (z6Q (no! .al)):=by
 have ab:=zbi dn! (q1!).1 s;exact (λd h1 h2=>by
  have st:zv [aB!,ha!] [d]=ag! d:=rfl;simp only[kg,Mof,zbn,st,_v];rw[zm (ρ':=[k!,e4! dn!]) (s':=s) (by simp[h1])];simp[h2,cap,deal]:∀d:D,xc [d] s=t! (dn!:Nat)->uA [d,d! (dn!:Nat)] s=bt! (nL (wC v dn!))->kg [d] s=j! (z6Q (no! .al))) _ (z2H qY! (q1!).1 s) ab
theorem zgw(h:a2!) (s:Sto):qr gD! s=j! (z6Q mV!):=by
 have ab:=zbi 0 (q1!).1 s;exact (λd h1 h2=>by
  have st:zv hX! [d]=cQ!:=rfl;simp only[qr,Mof,z8r,st,_h,_l,_v];by_cases z:fM!=0;·rw[z0I (d:=z6Q mV!) (s':=s) (by
    rw[z]at h1;rw[(show mV!=(0,[]) from by show (0,ai! fM! 0 [] (wC v 0))=_;rw[_i z])];simp[h1,cap])]
  ·rw[zm (ρ':=cQ!) (s':=s) (by
    generalize fM!=y at *;simp[h1,z])];rw[(show mV!=(0,wC v 0) from by show (0,ai! fM! 0 [] (wC v 0))=_;rw[_q z])];simp[h2,cap]:∀d:D,c1! d 0 s=t! fM!->uA [d,c4!] s=bt! (nL (wC v 0))->qr [d] s=j! (z6Q mV!)) _ (qM (j:=0) s (by have:=(q1!).2;omega)) ab
theorem zgs(r:Rl)(s:Sto):vm [bE!] s=b3!:=by simp[vm,Mof,z82,zv,zsT,(λr=>by cases r<;>decide:∀r,ip! (z2x.lookup (nmR r)))]
theorem z6a(r:Rl)(s:Sto):vX [bE!] s=fh!:=by simp[vX,Mof,z4g,zv,(zgs r s)]
theorem zar(r:Rl)(h:a2!)(s:Sto):zW [bE!,az!] s=fh!:=by
 have h1:=z6a r s;exact (λd e a1 a2=>by simp[zW,Mof,uL,zv,a1,a2]:hM! (vX [d] s=fh!->xn [e] s=fh!->zW [d,e] s=fh!)) _ _ h1 (z12 h s)
theorem z6G(r:Rl)(h:a2!)(he:en!)(s:Sto):wk [bE!,az!] s=fh!:=by
 have h2:=z5z h s;rw[he]at h2;exact (λd e a1 a2=>by simp[wk,Mof,z4n,zv,a1,a2]:hM! (zW [d,e] s=fh!->xB [e] s=dZ!->wk [d,e] s=fh!)) _ _ (zar r h s) h2
def dfR:Rl->Str | .nx=>mZ! | .le=>m0! | .al=>m1! | .tu=>m2!
noncomputable def MR:Rl->Mir | .nx=>qm | .le=>vQ | .al=>kg | .tu=>qr
theorem zuW(r:Rl)(h:a2!)(he:en!)(s:Sto):MR r gD! s=j! (z6Q mn!):=by cases r with
 | nx=>exact zfK h s | le=>exact zfg h he s | al=>exact zjE h s | tu=>exact zgw h s
theorem zrc(r:Rl):z2x.lookup (nmR r)=b! (dfR r):=by cases r<;>decide
theorem zvw(r:Rl):i0! ([(mZ!,qm),(m0!,vQ),(m1!,kg),(m2!,qr)]:dD! Mir) (dfR r) (MR r):=by
 cases r;·rfl
 ·rfl
 ·rfl
 ·rfl
theorem zt0(i:Nat)(l:jJ!)(s:Sto):za6 r! aa! (ad! (nL l)) s=fB! (i∈l):=by
 have ev:∀a b:Int,eqV f2! e0!=(a==b):=λ_ _=>U!;have e2:∀l:List Nat,inV aa! (of! (λj=>V.int (j:Nat)))=bw! (i∈l):=by
  intro l;induction l with
  | nil=>rfl | cons a l ih=>
   simp only[inV,_u,List.any_cons]at ih ⊢;rw[ih];by_cases q:i=a;·subst q;simp[ev]
   ·simp[ev,q,(show ¬ h! a=i from by omega)]
 have pi:∀i:Int,zaK aa!=ch!:=bf! U!;simp only[za6,pi,zY,_N,(show ∀l:List Nat,z1K (nL l)=b! (of! (λj=>V.int (j:Nat))) from by
  intro l;induction l with
  | nil=>rfl | cons a l ih=>simp[z1K,pi,ih]),e2];rfl
theorem z8t(x:v!)(s:Sto):zU [ad! x] s=bc! x:=by rfl
theorem z84(r:Rl) (h:e5!) (he:en!) (hm:m<=hN!) (s:Sto):vb [bE!,az!] s=bc! [d! (aL!:Nat),e1! dk!]:=by
 have dl:=uE r dA! he;have l4:=h.toLot.le4;have oM:=zuW r dA! he s;have key:hM! (e=bE!->MR r [d] s=j! (z6Q mn!)->yH [d] s=t! I!->(∀i,fo!->c1! d (i:Nat) s=t! bY!)->vb [e,d] s=bc! [d! aL!,e1! dk!]):=λd e d9 h1 h2 h3=>by
  have st:zv [c8!,aB!,"deal",ha!,"divided"] [e,d]=kk! z! k! a!:=rfl;simp only[vb,Mof,z7j,st,_h,_l,_v];rw[zm (ρ':=kk! z! k! (b! (.fn (dfR r)))) (s':=s) (by simp[d9,(zrc r)])];rw[zm (ρ':=[z!,k!,b! (.fn (dfR r)),e4! aL!,L! (nL (mn!).2)]) (s':=s) (by
   rw[z4b,zhK,zjG];simp only[_c,_d];rw[(zvw r)];simp only[zy,zP,yi,_c,_d,Rb,h1,z8O,_L,_E])];have ir:jw (bI! (hv! 1)) [z!,k!,b! (.fn (dfR r)),e! aL!,L! (nL (mn!).2)] s=j! (aR! I! (λi=>aD! (i:Nat)),[]):=by
   rw[zdr (n:=v.length) (s1:=s) (by lia) (by simp[h2])];rfl
  have c:=comp_map (mp:=hy! 4 1 3) (fg:=yh 3) (fe:=eIf (gP! (za6 r!) ba! o!) (eOp z9l (ax! 1 3) (ax! 1 2)) C!) (λi:Nat=>aD! (i:Nat)) (λi:Nat=>aD! (am! (i∈(mn!).2) (bY! / bs! aL!) 0)) (λi=>[L! (nL (mn!).2),k!,e! aL!,ch!]) pI! ir (λa _=>by rfl) (eP! (by
    have i1:=zt0 i (mn!).2 s;simp only[zqb,wT,yy,yi,z0Z,_c,_d,Rb,i1,(h3 i (by simpa using hi)),(h3 _ q0!)];by_cases q:i∈(mn!).2
    ·simp only[q,_dd,_v];rw[zh2,cd! (by
      rcases dl.pos with z | z;·rw[z]at q;cases q
      ·exact z) (_j (h.abs _ (q2! q0!)) (_C (by decide) (by lia)))]
    ·simp only[q,_cC,_a1];rfl)) (by simp[cap];lia);simp only[z4m,yf,z22,zy,c,Rb,zP,yi,_c,_d];rw[_i (by simp[cap])];simp[yN,_Q]
 exact key _ _ rfl oM (by simp[yH,zY]) (eP! (qM s hi))
theorem eq_str(ha:PyData.strOk a=c!)(hb:PyData.strOk b=c!)(s:Sto):dEq (aI! a) (aI! b) s=bz! (a==b):=by simp[dEq,zio,eqD,zuK,PyData.eqv,SeqAt.shaped,PyData.canLay0,PyData.depth,ha,hb]
theorem zhq(r:Rl):PyData.strOk (nmR r)=c!:=by cases r<;>decide +kernel
theorem zhD(r:Rl)(s:Sto):dEq bE! (aI! gb!) s=fB! (r=.tu):=by
 rw[eq_str (zhq r) (by decide +kernel)];congr 2;cases r<;>decide +kernel
theorem zgV(r:Rl)(xs:v!)(hl:x!<=4)(s:Sto):jO [bE!,ah!] s=bc! (g3! xs):=by
 have e1:=z32 xs 1 s;have e2:=z1O xs 1 s;have cp:q! (lk! 1)+q! (m7! 1)<=cap:=by simp[cap];lia
 exact (q3! (by
  have st:zv [c8!,kG!] [d,e]=hp!:=rfl;simp only[jO,Mof,zej,st,zaM,yf,zqb,(show tOf (et! dEq 0 (bV! gb!)) hp! s=j! (ki! r .tu) from by simp only[wT,yy,yi,z0Z,_c,Rb,hd,zhD]),Rb];by_cases q:r=.tu
  ·subst q;simp only[yy,zbB,yi,jF,z1J,z0Z,_c,_d,Rb,he];rw[show h! 1=dX! 1 from rfl,e2,Rb,e1,Rb,z3X,_i cp];rfl
  ·simp only[q,_cC];rw[z8i q];simp[he]):hM! (d=bE!->e=ah!->jO [d,e] s=bc! (g3! xs))) _ _ rfl rfl
theorem z9z{α β:bL!}(f:α->D)(g:β->D):∀(l:List α)(k:List β),z42 mN! (k.map g)=(l.zip k).map (iX! [f p.1,g p.2])
 | [],_=>by rfl | _::_,[]=>by rfl | a::l,b::k=>by simp[z42,z9z f g l k]
theorem zhR(r:Rl)(f:α->β)(xs:ex!):g3! (nS! f)=(g3! xs).map f:=by unfold mvd rot;split<;>simp[_aU]
theorem LotB.q(r:Rl)(h:e5!)(he:en!):Qs v aL! dk!:=zeX fT! (uE r dA! he)
theorem zoJ(r:Rl)(h:e5!)(he:en!):∀q∈dk!,0<=q/\q<2 ^ m:=λq hq=>by
 have Q:=h.q r he;refine⟨Q.nn q hq,?_⟩;obtain⟨i,hi,rfl⟩:=ge! hq;simp only[yN,_bG,List.getElem_range];have b:=h.bd _ (q2! (by rw[<- Q.len];exact hi));have n0:=vP fT! i;split
 ·have:=Int.ediv_le_self (bs! aL!) n0;lia
 ·lia
theorem zpw{n m:Nat} {v:i!} (r:Rl) (h:e5!) (he:en!) (hm:m<=hN!) (s:Sto):M_step [bE!,az!] s=j! (rD dt!):=by
 have l4:=h.toLot.le4;have w:=z6G r dA! he s;have dl:=uE r dA! he;have ix := qM s q0!;have mo:=zgV r (iL (cC! dk! aL!)) (by simp[uh (h.q r he).len];lia) s;have key:hM! (e=az!->wk [d,e] s=fh!->vb [d,e] s=bc! [d! aL!,e1! dk!]->jO [d,p! (iL (cC! dk! aL!))] s=bc! (g3! (iL (cC! dk! aL!)))-> M_step [d,e] s=j! (rD dt!)):=λd e hd h1 h2 h3=>by
  have st:zv [c8!,aB!,ha!,qO!,"left"] [d,e]=kk! k! z! a!:=rfl;have oN:c1! e aL! s=t! (bs! aL!):=by rw[hd];exact ix
  simp only[M_step,Mof,zhb,st,_v];rw[zm (ρ':=kk! k! z! a!) (s':=s) (by simp[h1]),zm (ρ':=[k!,z!,e! aL!,L! (iL dk!),a!]) (s':=s) (by simp[h2])];have ir:z4W (cn! n! 3) [k!,z!,e! aL!,L! (iL dk!),a!] s=j! ((v.zip dk!).map (iX! (bW! p.1 p.2)),[]):=by simp only[zgv,zy,zP,yi,_c,_d,Rb,hd,z8m,z9z,_aK]
  have c:=comp_map (mp:=fE! 1 2 a!) (fg:=yM 2 3) (fe:=kt! 2 (hz! 3 (ax! 0 1))) (pu! (gJ! (bW! p.1 p.2))) (pu! (aD! (p.1-p.2*bs! aL!))) (λp=>[z!,e! aL!,e! p.1,e! p.2]) _ ir (λp _=>by rfl) (bq! (by
    have hq:=zoJ r h he p.2 (l6!).2;have ab:bg! p.2<2 ^ m:=by
     have:h! (bg! p.2)<Z! (2 ^ m):=by rw[(_bC hq.1)];exact hq.2
     lia
    simp only[yy,yi,_c,_d,Rb,oN,(z3L s ab (by lia) (h.abs _ (q2! q0!)) (by lia)),zfE])) (by simp[cap];lia);rw[(show (v.zip dk!).map (pu! (aD! (p.1-p.2*bs! aL!)))=iL (cC! dk! aL!) from by
   unfold left;show _=List.map pd! _;rw[List.zip,_bg,_bg])]at c;rw[zm (ρ':=[k!,z!,e! aL!,L! (iL dk!),b! (p! (iL (cC! dk! aL!)))]) (s':=s) (by
   rw[zem,zN,yg,zy,c];rfl)];simp only[zdN,yf,yg,zy,zP,yi,_c,_d,Rb,h3];rw[zhR];rfl
 exact key _ _ rfl w (z84 r h he hm s) mo
theorem xi{M:Mir} (h:aM!=j! x):ze M (bI! f) ρ s=M [x] s:=by simp only[yg,zy,zP,h,Rb]
theorem call2{M:Mir} (h:aM!=j! x)(h2:g ρ s=j! y):ze M (aQ! f g) ρ s=M [x,y] s:=by simp only[yg,zy,zP,h,h2,Rb]
theorem zeY{M:Mir} (h:aM!=j! x)(h2:g ρ s=j! y)(h3:k ρ s=j! z):ze M (zb f (aQ! g k)) ρ s=M [x,y,z] s:=by simp only[yg,zy,zP,h,h2,h3,Rb]
theorem op2(h:aM!=j! x)(h2:g ρ s=j! y):eOp o f g ρ s=o x y s:=by simp only[yy,h,h2,Rb]
theorem z2P{n:Nat} (hn:n<=4) (s:Sto):xH [d! n] s=gY! bu!:=by
 have st:zv [mh!,lB!] [d! n]=[bv!,a!]:=rfl;simp only[xH,Mof,z1m,st,_v];rw[zm (ρ':=[bv!,L! (ym n)]) (by
  simp only[z0x,zN,zoN,zy,zP,yi,_c,Rb,_i (show h! 0<=n/\h! n<=ft! from by lia),_V];rfl)];simp only[z0j,yf];rw[yg,zy,(comp_map (fi:=zT n!) (mp:=b9!) (fg:=cj!) (fe:=eB! cN! b9! 1 (eIf (fa! o! n!) ao! C!)) (ρ:=[bv!,L! (ym n)]) (fW! (h! k)) (λi:Nat=>rD (aR! n (λj=>ai! i j 1 0))) (λi=>[L! (ym n),e! (Z! i)]) iV! (qN (by rfl)) (λa _=>by rfl) (λi _=>by
   rw[yg,zy,(λi=>by
  rw[comp_map (fW! (h! k)) (λj:Nat=>aD! (ai! i j 1 0)) (λj=>[ch!,e! (Z! j)]) iV! (qN (by rfl)) (λa _=>by rfl) (λj _=>by
   by_cases q:i=j;·subst q;simp
   ·have:¬ h! i=j:=by lia
    simp[q,this]) (by simp[cap];lia)];simp[_Q]:∀i:Nat,zt cN! b9! cj! zX (eIf (fa! o! n!) ao! C!) [L! (ym n),e! (Z! i)] s=j! (e1! (aR! n (λj=>ai! i j 1 0)))) i];rfl) (by simp[cap];lia))];simp only[Rb,zP,z8t];simp[one,_Q]
theorem z71(h:zY s x=b! (xs++[d])):c1! x (-1) s=j! d:=by
 simp only[dIx,h,atI,(show ixN (q! (xs++[d])) (-1)=b! x! from by
  unfold ixN;simp;lia),_N];simp
theorem zjA(xs:v!)(d:D):Dd.cutD (xs++[d]) a! (b! (-1))=xs:=by
 unfold Dd.cutD;rw[(show n3! (q! (xs++[d])) (q! (xs++[d])) (b! (-1))=x! from by
  unfold HT.sIx;simp;lia)];simp[HT.sIx]
theorem zbv{n m:Nat} {v:i!} (r:Rl) (h:e5!) (he:en!) (hm:m<=hN!) (s:Sto):wX [bE!,az!] s=gY! fN!:=by
 have l4:=h.toLot.le4;have w:=z6G r dA! he s;have dv:=z84 r h he hm s;have dl:=uE r dA! he;have oO:=z2P l4.1 s;have mo := λxs hx=>zgV r xs hx s;have key:hM! (yH [e] s=t! I!->wk [d,e] s=fh!->vb [d,e] s=bc! [d! aL!,e1! dk!]->(∀xs:List D,x!<=4->jO [d,ah!] s=bc! (g3! xs))-> wX [d,e] s=gY! fN!):=λd e h0 h1 h2 h3=>by
  have st:zv [c8!,aB!,ha!,qO!] [d,e]=fE! d e a!:=rfl;simp only[wX,Mof,z2y,st,_h,_l,_v];rw[zm (ρ':=fE! d e a!) (s':=s) (by simp[h1]),zm (ρ':=[k!,z!,e! aL!,L! (iL dk!)]) (s':=s) (by simp[h2])];have ir:z4W (cn! (a0! xH (hv! 1)) 3) [k!,z!,e! aL!,L! (iL dk!)] s=j! (((one I!).zip dk!).map (iX! [rD p.1,d! p.2]),[]):=by simp only[zgv,zy,zP,yi,yg,_c,_d,Rb,h0,oO,z8m,z9z,_aK]
  have c:=comp_map (mp:=fE! 0 2 a!) (fg:=yM 2 3) (fe:=du! jO (bd! (bd! (gu! H! n!) (uD (bI! (bd! (ax! 2 1) ba!)))) (e2! H! (gt! 1)))) (λp:List Int×Int=>gJ! [rD p.1,d! p.2]) (λp:List Int×Int=>rD (g3! (uF aL! p.1 p.2))) (λp=>[k!,e! aL!,b1! p.1,e! p.2]) _ ir (λp _=>by rfl) (bq! (by
    have hl := (z3A I!).row p.1 (l6!).1;have hb:aL!<q! p.1:=by rw[hl];exact dl.lt
    have e1:=z32 (iL p.1) aL! s;have e2:=z1O (iL p.1) (aL!+1) s;have e3:=qM (j:=aL!) s hb;generalize aL!=b at *;have f1:eSl H! zC (yt n!) [k!,e4! b,b1! p.1,e! p.2] s=bc! ((iL p.1).take b):=by exact e1
    have f2:eSl H! (yt (gt! 1)) zC [k!,e! (h! b),b1! p.1,e! p.2] s=bc! ((iL p.1).drop (b+1)):=by exact e2
    have f3:uD (bI! (bd! (ax! 2 1) ba!)) [k!,e! (h! b),b1! p.1,e! p.2] s=bc! [d! (p.1.getD b 0+p.2)]:=by
     simp only[z22,zy,zP,yy,yi,_c,_d,Rb,e3,z65];rw[_i (by simp[cap])]
    rw[call2 (x:=d) (by rfl) (show eOp yW (bd! (gu! H! n!) (uD (bI! (bd! (ax! 2 1) ba!)))) (e2! H! (gt! 1)) [k!,a7!,b1! p.1,e! p.2] s=bc! (iL (uF b p.1 p.2)) from by
     have c0:q! ((iL p.1).take b)<=4:=_H (List.length_take_le' ..) (by rw[_z,hl];exact l4.1);have c9:q! ((iL p.1).drop (b+1))<=4:=_H (by rw[_ax];exact Nat.sub_le ..) (show q! (iL p.1)<=4 by rw[_z,hl];exact l4.1);rw[yy,yy,f1,Rb,f3,Rb,z3X,_i (by exact _H (_bB c0 (_k 1)) (by decide:4+1<=cap)),Rb,f2,Rb,z3X,_i (by rw[_ar];exact _H (_bB (_bB c0 (_k 1)) c9) (by decide:4+1+4<=cap))];simp[uF,_cn,_aU]),h3 _ (by simp[uF];lia),zhR])) (by simp[cap,one];lia);simp only[z1A,yf];rw[yg,zy,c];simp only[Rb,zP,z8t];unfold jx z7k;rw[xa];simp only[tD];rw[_bg,List.zip,_bg]
 exact key _ _ (by simp[yH,zY]) w dv mo
theorem _root_.Pg.LotB.step{n m:Nat}{v:i!}(r:Rl)(h:e5!)(he:en!):ow! m dt!:=by
 refine⟨h.toLot.step r he,ae! ?_⟩;have:=zqV (B:=2 ^ m-1) r h.toLot he (cW! (by have:=h.bd y hy;lia)) x hx;lia
theorem ziY(hd:d=bE!) (hm:m<=hN!) (s:Sto) (Rn:f8! c):∀(pre:List (List Int)),ow! m c->pre.length+pt!<=50000-> wO (fk! (a0! xB (fy! 2 d1!))) z96 (pt!+1) [k!,z!,W!] (s++[d8! [c]])=D! [k!,z!,W!] (s++[d8! ls]):=by
 have c7:∀(pre:List (List Int)) (c:List Int),ow! m c->z1N (tOf (a0! xB (fy! 2 d1!))) [k!,z!,W!] (s++[d8! [c]])=.ok (! nm! c) (s++[d8! [c]]):=λpre c h=>by
  simp only[z01,wT,yg,zy,zP,yy,yi,zg4,z0Z,_c,_d,Rb];rw[(z71 (x:=lI!) (d:=rD c) (xs:=pre.map rD) (s:=s++[d8! [c]]) (by simp[zY]))];simp only[Rb];rw[(z5z dA! (s++[d8! [c]]))];rfl
 induction Rn with
 | @done v hend=>
  intro pre h hl;rw[wO,c7 pre v h,hend];rfl | @step v ls hend Rn ih=>
  intro pre h hl;rw[_h,wO,c7 pre v h,hend,Rb];have cj:=zpw r h hend hm (s++[d8! [v]]);rw[<- hd]at cj;have ix:=z71 (x:=lI!) (d:=az!) (xs:=pre.map rD) (s:=s++[d8! [v]]) (by simp[zY]);have body:z96 [k!,z!,W!] (s++[d8! [v]])=D! [k!,z!,W!] (s++[bC! (pre++[v]++[dt!])]):=by
   have bj:(s++[d8! [v]]).set cm! (d8! [v]++[rD dt!])=s++[bC! (pre++[v]++[dt!])]:=by simp
   simp only[z96,z0M,z8G,yg,zy,zP,yy,yi,zg4,z0Z,_c,_d,Rb];rw[ix];simp only[Rb];rw[cj];simp only[Rb];rw[(show E! (s++[d8! [v]]) cm! (d8! [v]) from by simp)];simp only;rw[cd! (yI _) (by simp[cap]at hl ⊢;lia),bj];rfl
  rw[body,Rb];simp only;rw[(ih (pre++[v]) (oY! hend) (by simp at hl ⊢;lia))];simp
theorem zrF(r:Rl) (h:e5!) (Rn:f8! v) (hm:m<=hN!) (hl:oW!) (s:Sto):ziy [bE!,az!] s=gs! (s++[pH!]):=by
 have w:=zar r dA! s;have key:hM! (d=bE!->e=az!->ziy [d,e] s=gs! (s++[pH!])):=q3! (by
  have st:zv [c8!,aB!,"lots"] [d,e]=fm! d e:=rfl;simp only[ziy,Mof,zlo,st,_v];rw[zm (ρ':=fm! d e) (s':=s) (by simp[(show zW [d,e] s=fh! from by rw[hd,he];exact w)])];rw[zm (by
   simp only[zcL,zN,z77,zy,zP,yi,_d,_c,Rb];rw[cd! (by simp[cap]) (by simp[flC,flN,(show e.flat=c! from by rw[he];exact (yI _))])];rfl)];have lp:=ziY (e:=e) hd hm s Rn [] h (by simpa using hl);rw[_av]at lp;rw[show bC! [v]=[e] from by rw[he];rfl]at lp;rw[zm (by exact z2B lp (by simp))];rfl)
 exact key _ _ rfl rfl
theorem zia(h:e5!)(Rn:f8! v):∀a∈ls.dropLast,ow! m a/\nm! a=r!:=by induction Rn with
 | done e=>simp | step e R2 ih=>
  intro a ha;rw[List.dropLast_cons_of_ne_nil R2.ne]at ha;rcases eK! ha with rfl | ha;·exact gT! h
  ·exact ih (oY! e) a ha
theorem zmQ{n m:Nat}{B:Int}{P:Tb}{c x:i!}(I:PI n B P c x)(hB:B<2 ^ m):Bd m P:=λrow hr y hy=>by
 have:=I.nn row hr y hy;have:nl!<Z! (2 ^ m):=by rw[(show Z! (2 ^ m)=2 ^ m from by rfl)];lia
 lia
theorem zhd{n m:Nat}{v:i!}(r:Rl)(h:e5!)(he:en!):Bd m fN!:=λrow hr y hy=>by
 have:=znh (B:=2 ^ m-1) r h.toLot he (cW! (by have:=h.bd y hy;lia)) row hr y hy;have e2:Z! (2 ^ m)=2 ^ m:=by rfl
 lia
def z3n:Tb->d9! Tb->d9! Tb
 | P,[]=>[P] | P,T::ts=>P::z3n (qV P T) ts
theorem z89:∀(ts:List Tb)(P:Tb),(z3n P ts).getLast? = b! (ts.foldl qV P)
 | [],P=>rfl | T::ts,P=>by rw[z3n,List.getLast?_cons,z89 ts];rfl
theorem z8u(T:Tb):(tD T).flat=c!:=by
 show da! nu!;induction T with
 | nil=>rfl | cons r T ih=>simp only[_u,flC,flN,ih,Bool.and_true];exact yI r
theorem z6g(d t:D) (hn:a9!) (hB:B<2 ^ m) (hm:m<=hN!) (hx:∀y∈x,y<=B) (s:Sto) (Rn:f8! c):∀(P:Tb) (pre:List Tb) (all:List D) (z:Option D),ow! m c->PI n B P c x->pre.length+pt!<=50000-> ∃z',yL [] all (ee! (yh 3 d ρ s) (xj ρ' s')) fl! [k!,b! t,W!,z] (s++[fX! (pre++[P])])=D! [k!,b! t,W!,z'] (s++[fX! (pre++z3n P jC!)]):=by induction Rn with
 | done he=>exact λP pre all z h I hl=>⟨z,by simp[zK,yL,okG,z3n]⟩ | @step v ls he R2 ih=>
  intro P pre all z h I hl;have mm:=zam (s++[fX! (pre++[P])]) hn I.tab (z0X r dA! he) (zmQ I hB) (zhd r h he) (by lia) (by lia);obtain⟨z',ih⟩:=ih (qV P fN!) (pre++[P]) all ku! (oY! he) (I.step r hx dA! he) (by simp at hl ⊢;lia);have ix:=z71 (x:=lI!) (d:=tD P) (xs:=pre.map tD) (s:=s++[fX! (pre++[P])]) (by simp[zY]);have body:xj [k!,b! t,W!,ku!] (s++[fX! (pre++[P])])=D! [k!,b! t,W!,ku!] (s++[fX! (pre++[P]++[qV P fN!])]):=by
   have gt:E! (s++[fX! (pre++[P])]) cm! (fX! (pre++[P])):=by simp
   have bj:(s++[fX! (pre++[P])]).set cm! (fX! (pre++[P])++[tD (qV P fN!)])=s++[fX! (pre++[P]++[qV P fN!])]:=by simp
   have fl:=z8u (qV P fN!);generalize (s++[fX! (pre++[P])])=S at *;have cc:ze wW (cn! (fy! 2 d1!) 3) [k!,b! t,W!,ku!] S=.ok (tD (qV P fN!)) S:=by
    rw[call2 (by exact ix) (y:=tD fN!) (by rfl)];exact mm
   rw[xj,z0M,z8G];simp only[yi,_c,_d,Rb];rw[cc];simp only[Rb];rw[gt];simp only;rw[cd! fl (by simp[cap]at hl ⊢;lia),bj];rfl
  rw[R2.tabs_cons,_u,yL,_i (by intro p hp;cases hp),va,Rb];simp only[_L,_E];rw[body,Rb];simp only;rw[ih,z3n];simp
theorem zgU(r:Rl) (h:e5!) (Rn:f8! v) (hm:m<=hN!) (hl:oW!) (s:Sto):xZ [d! n,ad! fl!] s=gs! (s++[fX! (z3n bu! jC!)]):=by
 have key:∀d t:D,d=d! n->t=ad! fl!->xZ [d,t] s=gs! (s++[fX! (z3n bu! jC!)]):=λd t hd ht=>by
  have st:zv [mh!,nj!,"products",eq!] [d,t]=fE! d t a!:=rfl;simp only[xZ,Mof,qp,st,_v];rw[zm (ρ':=fE! d t W!) (s':=s++[[tD bu!]]) (by
   have c2:ze xH (cw! 0) (fE! d t a!) s=gY! bu!:=by rw[hd];exact (z2P (n:=n) (by have:=h.sz;lia) s)
   rw[wB,zN,z77,zy,c2];simp only[Rb,zP];rw[cd! (by simp[cap]) (by simp[flC,flN,(z8u bu!)])];rfl)];obtain⟨z',lp⟩:=z6g d t h.sz (B:=2 ^ m-1) (by lia) hm (cW! (by have:=h.bd y hy;lia)) s Rn bu! [] fl! none h (PI.start dA! (cW! (by have:=h.bd y hy;lia))) (by simpa using hl);rw[zm (by
   rw[wy,qE,qN (xs:=fl!) (by simp[ht])];exact lp)];rfl
 exact key _ _ rfl rfl
theorem zhU{i:Int}(h0:0<=i)(h:i<2 ^ bH!):hJ!<BIG:=by exact _cE.mp (_cS (by rw[(_bC h0)];exact h) (by decide +kernel))
theorem z0O(s:Sto)(ha:0<=a)(gf:a<2 ^ bH!)(hb:0<=b)(iH:b<2 ^ bH!):yS f2! e0! s=t! (a*b):=by rw[zfP,cd! (zhU ha gf) (zhU hb iH)]
theorem zgK(s:Sto)(hb:0<b)(iH:b<2 ^ bH!):z9l f2! e0! s=t! (a / b):=by rw[zh2,cd! hb (zhU (by lia) iH)]
theorem zp2(ns:i!) (k:Nat) (s:Sto):∃c,ug [dh!,d! k] s=t! c:=by
 have st:zv [lC!,pl!] [dh!,d! k]=[b! dh!,bk!]:=rfl;have gl:yH [dh!] s=t! eN!:=by
  show ep! (aD! (q! (iL ns):Nat)) s=_;rw[_z]
 have t:tOf (et! dLt 1 ej!) [b! dh!,bk!] s=j! (bw! (h! k<eN!)):=by rw[wT,op3 (r:=fB! (h! k<eN!)) bi! (cl3 k6! gl) rfl];rfl
 simp only[ug,Mof,z0h,st,_h,_l,_v];by_cases h:k<eN!
 ·have hl:k<q! (iL ns):=by rw[_z];exact h
  have e:ixN (q! (iL ns)) k=b! k:=by
   unfold ixN;rw[_i (Int.natCast_nonneg k),_i (_cE.mpr hl)];rfl
  have ix:c1! dh! k s=t! (ns[k]):=by
   simp only[dIx,zY,atI,e,_N];simp[h]
  refine⟨ns[k],?_⟩;rw[z0I (d:=d! (ns[k])) (s':=s) (by rw[uG,ke,t,Rb,_i (_a5 (_cE.mpr h)),kL,yf,op3 bi! bi! ix,Rb])]
 ·exact⟨0,by rw[zm (ρ':=[b! dh!,bk!]) (s':=s) (by rw[uG,ke,t,Rb,_q (by rw[_ap (mt _cE.mp h)];decide)];rfl)];rfl⟩
def Pot(s:Sto)(l:Nat):g!:=∃p:Int,E! s l [d! p]
theorem Pot.lt(h:Pot s l):l<cm!:=by
 obtain⟨p,e⟩:=h;exact cM! e
theorem Pot.app(h:Pot s l)(t:Sto):Pot (s++t) l:=by
 obtain⟨p,e⟩:=h;exact⟨p,by rw[_I (cM! e)];exact e⟩
structure kN(s s':Sto)(l:Nat):g! where
 pot:Pot s' l
 len:s'.length=cm!
 oth:∀m,m≠l->s'[m]? = s[m]?
inductive Tk(iI:R D)(far:Int)(s:Sto)(l:Nat):g! | mk (r:Int)(s':Sto)(e:iI=cg! (d! r))(a:0<=r)(b:r<far)(c:kN s s' l)
theorem zqv(h:Pot s l)(h0:0<far)(h1:far<2 ^ bH!):Tk (zB [dK!,d! far] s) far s l:=by
 obtain⟨p,e⟩:=h;refine⟨p % far,s.set l [d! (p / far)],?_,_a9 _ (by lia),_bm _ h0,⟨p / far,by rw[_ah (cM! e)]⟩,by simp,λm hm=>_ab (_bT hm)⟩;have st:zv [fd!,po!,gf!] [dK!,d! far]=[N!,dH!,a!]:=rfl;have di:c1! dK! 0 s=t! p:=by simp[dIx,zY,e,atI,ixN]
 have q1:z2N [N!,dH!,a!] s=aO! [N!,dH!,e! (p % far)]:=zn1 (op3 (gS! bi! di) bi! (z67 s h0));have q2:jP [N!,dH!,e! (p % far)] s=D! [N!,dH!,e! (p % far)] (s.set l [d! (p / far)]):=by
  rw[jP,zcP,op3 (gS! bi! di) bi! (zgK s h0 h1),Rb,show zd 0 [N!,dH!,e! (p % far)] s=j! dK! from rfl,Rb,show eC c4! [N!,dH!,e! (p % far)] s=t! 0 from rfl,Rb];simp only[e];rfl
 simp only[zB,Mof,z4c,st,_h,_l,_v];rw[zm q1,zm q2];rfl
theorem zs7(s:Sto):zbW (d! 10) (d! 18) s=t! pw!:=by rfl
theorem zuR(s:Sto):zbW (d! 10) (d! 6) s=t! 1000000:=by rw[zlv];rfl
theorem pow_step(h:m<2147483648 ^ j)(hr:r<lD!):m*lD!+r<2147483648 ^ (j+1):=by lia
theorem zqg{m j:Nat}(h:m<2147483648 ^ j)(hj:j<=64):h! m<2 ^ bH!:=by
 have h2:2147483648 ^ 64<=2 ^ bH!:=by decide +kernel
 exact _cE.mpr (_j h (_H (_C (by decide) hj) h2))
theorem zsQ(c:Int) (s:Sto):∃p:Int,z0W [d! c] s=gs! (s++[[d! p]]):=by
 have st:zv ["_law_cell",cv!,"_law_j",lE!] [d! c]=[e! c,a!,a!,a!]:=rfl;have pw:eOp zbW je! (T! 18) [e! c,a!,a!,a!] s=t! pw!:=gS! rfl (zs7 s);have tq:tOf (et! dGe 0 (eOp zbW je! (T! 18))) [e! c,a!,a!,a!] s=j! (jd! pw! c):=by rw[wT,op3 (r:=fB! (pw!<=c)) bi! pw rfl];rfl
 simp only[z0W,Mof,z6j,st,_h,_l,_v];by_cases h:pw!<=c
 ·have e0:qX [e! c,a!,a!,a!] s=.ok (.rt lI!) (s++[[d! (c-pw!)]]):=by
   rw[qX,ke,tq,Rb,_i (_a5 h),z4e,yf,z77,zy,op3 (r:=t! (c-pw!)) bi! pw rfl];rfl
  exact c0! (by rw[z0I e0])
 ·have lp:∃ ρ' s',z48 [e! c,e! 0,a!,a!] s=D! ρ' s'/\∃(m:Nat) (a b:Option D),ρ'=[e! c,e! m,a,b]/\s'=s:=by
   obtain⟨ρ',s',e,m,a,b,e1,e2,_⟩:=z17 (body:=ee! (yh 2 d ρ s) ((bh! z0A z0k z0B) ρ' s')) (λj ρ s'=>∃(m:Nat) (a b:Option D),ρ=[e! c,e! m,a,b]/\s'=s/\m<2147483648 ^ j) (ym 64) 0 (λj x hx ρ s' hi=>by
    obtain⟨m,a,b,rfl,rfl,hm⟩:=hi;obtain⟨hj,rfl⟩:=z2G hx;rw[_as]at hm;have a1:zdO (d! c) (d! pn!) s'=cg! (d! (c % pn!)):=z67 s' (by decide);have a2:yS (d! 7919) (d! j) s'=cg! (d! (7919*j)):=z0O s' (by decide) (by decide +kernel) (by lia) (by lia);have a3:yS (d! (c % pn!+7919*j+1)) (d! 48271) s'=cg! (d! ((c % pn!+7919*j+1)*48271)):=z0O s' (by lia) (by lia) (by decide) (by decide +kernel);generalize iz:(c % pn!+7919*j+1)*48271 % 2147483647=x1;have b0:0<=x1:=by rw[<- iz];exact _a9 _ (by decide)
    have a4:zdO (d! ((c % pn!+7919*j+1)*48271)) (d! 2147483647) s'=cg! (d! x1):=by rw[<- iz];exact z67 s' (by decide)
    have a6:yS (d! 69621) (d! j) s'=cg! (d! (69621*j)):=z0O s' (by decide) (by decide +kernel) (by lia) (by lia);generalize gu:(x1*x1+69621*j+7) % lD!=x2;have a7:zdO (d! (x1*x1+69621*j+7)) (d! lD!) s'=cg! (d! x2):=by rw[<- gu];exact z67 s' (by decide)
    have a8:yS (d! m) (d! lD!) s'=cg! (d! (m*lD!)):=z0O s' (by lia) (zqg hm (by lia)) (by decide) (by decide +kernel);obtain⟨y,rfl⟩:=Int.eq_ofNat_of_zero_le (show 0<=x2 from by rw[<- gu];exact _a9 _ (by decide));refine⟨[e! c,e4! (m*lD!+y),aH!,e! y],s',?_,m*lD!+y,_,_,rfl,rfl,?_⟩
    ·have e5:z0A [e! c,e! m,aH!,b] s'=D! [e! c,e! m,aH!,e! x1] s':=zn1 (gS! (gS! (gS! (op3 (gS! bi! a1) (op3 rfl bi! a2) rfl) rfl) a3) a4);have e6:z0k [e! c,e! m,aH!,e! x1] s'=D! [e! c,e! m,aH!,e! y] s':=zn1 (gS! (gS! (op3 (op3 bi! bi! (z0O s' b0 (by lia) b0 (by lia))) (op3 rfl bi! a6) rfl) rfl) a7);have e7:z0B [e! c,e! m,aH!,e! y] s'=D! [e! c,e4! (m*lD!+y),aH!,e! y] s':=zn1 (op3 (gS! bi! a8) bi! (by rw[z65];rfl));exact hf! (zm e5) (zm e6) e7
    ·rw[_as];exact pow_step hm (by lia)) [e! c,e! 0,a!,a!] s ⟨0,a!,a!,rfl,rfl,by decide⟩;exact⟨ρ',s',by exact e,m,a,b,e1,e2⟩
  obtain⟨ρ',s',e,m,a,b,rfl,rfl⟩:=lp;rw[zm (ρ':=[e! c,a!,a!,a!]) (s':=s') (by rw[qX,ke,tq,Rb,_q (by rw[_ap h];decide)];rfl),zm (ρ':=[e! c,e! 0,a!,a!]) (s':=s') (by rfl),zm e];simp[flC,flN,z9d,cap]
theorem zaW{α:bL!} (hg:okG gd all s)(g f:α->D):∀(l:List α)(acc:List D),(∀a∈l,body (g a) s=j! (b! (f a)))->jZ!+j0!<=cap->qF gd all dT! mO! acc s=j! (acc++mN!)
 | [],acc,_,_=>by simp[qF,hg] | x::xs,acc,hb,hl=>by
  have ih:=zaW hg g f xs (acc++[f x]) (cW! (hb y (by simp[hy]))) (by simp at hl ⊢;lia);have hc:jZ!<cap:=by simp at hl;lia
  rw[_u,qF,_i hg,hb x (by simp)];simp[hc,ih]
structure LS(s0:Sto)(l:Nat)(s:Sto)(xs:i!):g! where
 pot:Pot s l
 len:cm!=kK!+1
 at_:E! s kK! (iL xs)
 oth:∀m,m≠l->m<kK!->s[m]? = s0[m]?
theorem LS.drawn(h:LS s0 l s xs)(hl:l<kK!)(d:kN s s' l):LS s0 l s' xs:= ⟨d.pot,by rw[d.len,h.len],by rw[d.oth _ (by lia)];exact h.at_,λm h1 h2=>by rw[d.oth m h1];exact h.oth m h1 h2⟩
theorem LS.set(h:LS s0 l s xs)(hl:l<kK!)(ys:i!):LS s0 l (s.set kK! (iL ys)) ys:=by
 refine⟨?_,by simp[h.len],_ah (by rw[h.len];lia),λm h1 h2=>?_⟩
 ·obtain⟨p,e⟩:=h.pot;exact⟨p,by rw[_ab (by lia)];exact e⟩
 ·rw[_ab (by lia)];exact h.oth m h1 h2
theorem LS.fin(h:LS s0 l s xs)(hl:l<kK!):kN s0 (s.take kK!) l:=by
 obtain⟨p,e⟩:=h.pot;refine⟨⟨p,by rw[_ak hl];exact e⟩,by simp[h.len],λm h1=>?_⟩;by_cases h2:m<kK!;·rw[_ak h2];exact h.oth m h1 h2
 ·rw[_M (by simp[h.len];lia),_M (by lia)]
theorem LS.start(d:kN s0 s l)(h:Pot s0 l)(xs:i!):LS s0 l (s++bF! xs) xs:= ⟨d.pot.app _,by simp[d.len],by rw[<- d.len];simp,λm h1 h2=>by rw[_I (by rw[d.len];exact h2)];exact d.oth m h1⟩
theorem kN.trans(a:kN s s1 l)(b:kN s1 s2 l):kN s s2 l:=⟨b.pot,by rw[b.len,a.len],λm h=>by rw[b.oth m h,a.oth m h]⟩
theorem vw(h:Pot s l)(h0:0<far)(h1:far<2 ^ bH!)(hf:aM!=j! dK!)(hg:g ρ s=t! far):Tk (ze zB (aQ! f g) ρ s) far s l:=by
 obtain⟨r,s',e,a,b,c⟩:=zqv h h0 h1;exact⟨r,s',by rw[px! hf hg,e],a,b,c⟩
theorem zoM(s:Sto):zbW (d! 10) (d! 30) s=t! fx!:=by rw[zlv];rfl
theorem wV(h0:0<=i)(h:E! xs jq! d):c1! cq! i s=j! d:=by
 have hj := cM! h;simp only[dIx,zY,atI,(show kQ! i=b! jq! from by
  unfold ixN;rw[_i h0,_i (by lia)]),_N,h]
theorem zal(hl:E! s l xs)(h0:0<=i)(h:E! xs jq! d):c1! dK! i s=j! d:=by
 have hj := cM! h;simp only[dIx,zY,hl,atI,(show kQ! i=b! jq! from by
  unfold ixN;rw[_i h0,_i (by lia)]),_N,h]
theorem zlC(ha:gA! s=j! (.loc L))(hb:fb ρ s=bD! (d! x))(at_:E! s2 L (iL xs))(hl:x!<ft!):we (zcA fa fb) ρ s=D! ρ (oa! L (iL (xs++[x]))):=by
 rw[z0M,z8G,ha,Rb];simp only;rw[hb,Rb];simp only[at_];rw[cd! (z9d x) (by simp[cap];lia)];simp
theorem z5F{i x:Int}(hc:fc ρ s=M! (d! x))(ha:gA! s1=M! (.loc L))(hb:f4!=bD! aa!)(at_:E! s2 L (iL xs))(h0:0<=i)(h1:i<x!):z0D fa fb fc ρ s=D! ρ (oa! L (iL (iE! jq! x))):=by
 rw[zcP,hc,Rb,ha,Rb,hb,Rb];simp only[at_,(show ixN (q! (iL xs)) i=b! jq! from by
  unfold ixN;rw[_i h0,_i (by simp;lia)]),z9d,_v,_bb]
theorem zi6{xs:i!} (h:∀y∈xs,0<=y/\y<=B)(hx:0<=x/\x<=B):∀y∈iE! i x,0<=y/\y<=B:=cW! (by
 rcases _B hy with h2 | h2;·exact h y h2
 ·rw[h2];exact hx)
theorem zn4(s:Sto)(h0:0<=r)(h1:r<6):∃far:Int,c1! (ad! [d! 13,d! ft!,d! 1000000,d! fx!,d! 3,d! 60]) r s=t! far/\3<=far/\far<=fx!:=by
 have:r=0\/r=1\/r=2\/r=3\/r=4\/r=5:=by lia
 rcases this with rfl | rfl | rfl | rfl | rfl | rfl;·exact⟨13,wV (by decide) rfl,by decide,by decide⟩
 ·exact⟨ft!,wV (by decide) rfl,by decide,by decide⟩
 ·exact⟨1000000,wV (by decide) rfl,by decide,by decide⟩
 ·exact⟨fx!,wV (by decide) rfl,by decide,by decide⟩
 ·exact⟨3,wV (by decide) rfl,by decide,by decide⟩
 ·exact⟨60,wV (by decide) rfl,by decide,by decide⟩
theorem bB:h! fx!<2 ^ bH!:=by decide +kernel
theorem kw{x:Int}(h:dv! x):x<2 ^ bH!:=_bn h (by decide +kernel)
theorem zeb{s0:Sto} {l:Nat} {far thin:Int} (hl:l<kK!) (f0:3<=far) (f1:far<=fx!) (a1:fD!):∀(k j:Nat) (all:List D) (s:Sto) (xs:List Int) (p q:Option D),LS s0 l s xs->(∀y∈xs,0<=y/\y<=fx!)->x!=j->j+k<=4-> ∃s' ys p' q',yL [] all (ee! (yh 5 d ρ s) ((zx qQ jd) ρ' s')) ((oe! j k).map λi=>aD! (Z! i)) [N!,a1,dH!,hl!,mx!,p,q,a!] s=D! [N!,a1,dH!,hl!,mx!,p',q',a!] s'/\LS s0 l s' ys/\(∀y∈ys,0<=y/\y<=fx!)/\c6!=j+k
 | 0,j,all,s,xs,p,q,h,hx,hj,_=>⟨s,xs,p,q,by simp[yL,okG],h,hx,by lia⟩ | k+1,j,all,s,xs,p,q,h,hx,hj,hk=>by
  obtain⟨r1,s1,e1,pW,pX,d1⟩:=vw (ρ:=[N!,a1,dH!,hl!,mx!,aH!,q,a!]) (f:=o!) (g:=H!) h.pot (by lia) (_bn f1 bB) (by rfl) (by rfl);have h1:=h.drawn hl d1;obtain⟨r2,s2,e2,pY,pZ,d2⟩:=vw (ρ:=[N!,a1,dH!,hl!,mx!,aH!,e! (r1+1),a!]) (f:=o!) (g:=T! 4) (far:=4) h1.pot (by decide) (kw (by decide)) (by rfl) (by rfl);have h2:=h1.drawn hl d2;have hv:∃x:Int,yS (d! (r1+1)) (d! (aF! (jd! thin r2) 1 0)) s2=bD! (d! x)/\0<=x/\x<=fx!:=by
   refine⟨(r1+1)*(aF! (jd! thin r2) 1 0),z0O s2 (by lia) (_bn (show r1+1<=fx! by lia) bB) (by split<;>decide) (by split<;>exact kw (by decide)),?_⟩;split<;>lia
  obtain⟨x,ex,x0,x1⟩:=hv;have h3:=h2.set hl (xs++[x]);obtain⟨s',ys,p',q',e3,h4,y4,l4⟩:=zeb hl f0 f1 a1 k (j+1) all (oa! kK! (iL (xs++[x]))) (xs++[x]) aH! (e! (r1+1)) h3 (by
   intro y hy;rcases nX! hy with hy | hy;·exact hx y hy
   ·simp at hy;subst hy;exact as! x0 x1) (by simp[hj]) (by lia);refine⟨s',ys,p',q',?_,h4,y4,by lia⟩;have b1:qQ [N!,a1,dH!,hl!,mx!,aH!,q,a!] s=g0! [N!,a1,dH!,hl!,mx!,aH!,e! (r1+1),a!]:=by
   rw[qQ,zN,yy,e1];rfl
  have b2:jd [N!,a1,dH!,hl!,mx!,aH!,e! (r1+1),a!] s1=D! [N!,a1,dH!,hl!,mx!,aH!,e! (r1+1),a!] (oa! kK! (iL (xs++[x]))):=by
   have ev:eOp yS (zd 6) (a0! zdd (eOp dGe (du! zB (T! 4)) ba!)) [N!,a1,dH!,hl!,mx!,aH!,e! (r1+1),a!] s1=bD! (d! x):=by
    have g:ze zdd (bI! (eOp dGe (du! zB (T! 4)) ba!)) [N!,a1,dH!,hl!,mx!,aH!,e! (r1+1),a!] s1=bD! (d! (aF! (jd! thin r2) 1 0)):=by
     rw[yg,zy,yy,e2];rfl
    rw[yy];simp only[yi,_c,_d,Rb];rw[g,Rb,ex]
   rw[jd];exact zlC (by rfl) ev h2.at_ (by lia)
  rw[List.range'_succ,_u,yL,_i (by intro p hp;cases hp),va,Rb];simp only[_L,_E];rw[zkw,b1,Rb];simp only;rw[b2,Rb];simp only;exact e3
theorem zdS: zew n (j! az!)=.ok az! (s.take n):=z11 (yI v)
theorem zgO(h:a3! ns)(e:E! s L (iL ns))(hf:aM!=j! (.loc L)):tOf (eOp dEq (a0! vy f) C!) ρ s=j! (ki! nx! 0):=by
 rw[wT,yy,xi hf,zjy h e];rfl
theorem zfc(h:a3! ns)(hn:∀y∈ns,0<=y)(hm:nx!≠0):∃x∈ns,0<x:=⟨nx!,kE! h,by have:=hn _ (kE! h);lia⟩
inductive TkL(s:Sto)(l:Nat):g! | mk (n:Nat)(v:i!)(s':Sto)(e:z13 [dK!] s=cg! az!)(b:l5!)(c:kN s s' l)
theorem zte{s:Sto} {l:Nat} (h:Pot s l):TkL s l:=by
 have hl:=h.lt;have st:zv [fd!,fR!,po!,"_law_thin",kH!,er!,cv!,lE!] [dK!]=[N!,a!,a!,a!,a!,a!,a!,a!]:=rfl;obtain⟨r1,s1,e1,a1,b1,d1⟩:=vw (ρ:=[N!,a!,a!,a!,a!,a!,a!,a!]) (f:=o!) (g:=T! 3) (far:=3) h (by decide) (kw (by decide)) (by rfl) (by rfl);obtain⟨n,hn⟩:∃n:Nat,2+r1=h! n:=⟨fc! (2+r1),by lia⟩;have bf:a9!:=by unfold Sz;lia
 have p1:z0P [N!,a!,a!,a!,a!,a!,a!,a!] s=g0! [N!,bv!,a!,a!,a!,a!,a!,a!]:=by
  rw[z0P,zN,yy,z0Z,Rb,e1];simp[hn]
 obtain⟨r2,s2,e2,a2,b2,d2⟩:=vw (ρ:=[N!,bv!,a!,a!,a!,a!,a!,a!]) (f:=o!) (g:=T! 6) (far:=6) d1.pot (by decide) (kw (by decide)) (by rfl) (by rfl);obtain⟨far,ef,f0,f1⟩:=zn4 s2 a2 b2;have p2:z0H [N!,bv!,a!,a!,a!,a!,a!,a!] s1=D! [N!,bv!,dH!,a!,a!,a!,a!,a!] s2:=by
  rw[z0H,zN,yy];have:kQ (fK! (T! 13) (T! ft!) (eOp zbW je! (T! 6)) (eOp zbW je! (T! 30)) (aQ! (T! 3) (T! 60))) [N!,bv!,a!,a!,a!,a!,a!,a!] s1=M! (ad! [d! 13,d! ft!,d! 1000000,d! fx!,d! 3,d! 60]):=by exact zfk (gQ! rfl rfl (gQ! (gS! rfl (zuR s1)) (gS! rfl (zoM s1)) (gQ! rfl rfl rfl))) (by decide)
  rw[this,Rb,e2,Rb,ef];rfl
 obtain⟨thin,s3,e3,a3,b3,d3⟩:=vw (ρ:=[N!,bv!,dH!,a!,a!,a!,a!,a!]) (f:=o!) (g:=T! 4) (far:=4) d2.pot (by decide) (kw (by decide)) (by rfl) (by rfl);have p3:z0C [N!,bv!,dH!,a!,a!,a!,a!,a!] s2=D! [N!,bv!,dH!,hl!,a!,a!,a!,a!] s3:=by
  rw[z0C,zN,e3];rfl
 have dd:=a4! (d1.trans d2) d3;have p4:z0N [N!,bv!,dH!,hl!,a!,a!,a!,a!] s3=D! [N!,bv!,dH!,hl!,W!,a!,a!,a!] (s3++bF! []):=by
  rw[z0N,zN,z77,zP,Rb,cd! (by decide) rfl,dd.len];rfl
 have L0:=LS.start dd h [];obtain⟨s5,xs,p',q',e5,L5,x5,n5⟩:=zeb (thin:=thin) hl f0 f1 bv! n 0 (ym n) (s3++bF! []) [] none none L0 (by decide) rfl (by unfold Sz at bf;lia);have p5:qL [N!,bv!,dH!,hl!,W!,a!,a!,a!] (s3++bF! [])=D! [N!,bv!,dH!,hl!,W!,p',q',a!] s5:=by
  rw[qL,qE,zdr (n:=n) (s1:=s3++bF! []) (by unfold Sz at bf;lia) (by rfl),Rb];rw[show (ym n)=(oe! 0 n).map (λi=>aD! (Z! i)) from by rw[ym,List.range_eq_range']]at e5 ⊢;exact e5
 let V:Ev:=[N!,bv!,dH!,hl!,W!,p',q',a!];have p5:qL [N!,bv!,dH!,hl!,W!,a!,a!,a!] (s3++bF! [])=D! V s5:=p5;rw[_as]at n5;have oP:a3! xs:=λz=>by rw[z]at n5;simp at n5;unfold Sz at bf;lia
 have s8:∃s6 ys,qU V s5=D! V s6/\LS s l s6 ys/\(∀y∈ys,0<=y/\y<=fx!)/\c6!=n:=by
  have t:=zgO (f:=zd 4) (ρ:=V) oP L5.at_ (by rfl);by_cases z:jY! xs=0
  ·obtain⟨ra,sa,ea,aa,ba,da⟩:=vw (ρ:=V) (f:=o!) (g:=H!) (far:=far) L5.pot (by lia) (_bn f1 bB) (by rfl) (by rfl);have La:=L5.drawn hl da;obtain⟨rb,sb,eb,ab,bb,db⟩:=vw (ρ:=V) (f:=o!) (g:=n!) (far:=n) La.pot (by unfold Sz at bf;lia) (kw (by unfold Sz at bf;lia)) (by rfl) (by rfl);have Lb:=La.drawn hl db;refine⟨_,_,?_,Lb.set hl (iE! rb.toNat (1+ra)),zi6 x5 (by lia),by simp[n5]⟩;rw[qU,ke,t,Rb,_i (by simpa using z),z3J];exact z5F (by rw[yy,z0Z,Rb,ea];rfl) (by rfl) eb Lb.at_ ab (by lia)
  ·refine⟨s5,xs,?_,L5,x5,n5⟩;rw[qU,ke,t,Rb,_q (by simpa using z)];rfl
 obtain⟨s6,ys,p8,L6,x6,n6⟩:=s8;obtain⟨r7,s7,e7,a7,b7,d7⟩:=vw (ρ:=V) (f:=o!) (g:=T! 12) (far:=12) L6.pot (by decide) (kw (by decide)) (by rfl) (by rfl);have L7:=L6.drawn hl d7;let U:Ev:=[N!,bv!,dH!,hl!,W!,p',q',e! (1+r7)];have oQ:kr V s6=D! U s7:=by
  rw[kr,zN,yy,z0Z,Rb,e7];rfl
 have oR:∃s8 zs,uY U s7=D! U s8/\LS s l s8 zs/\(∀y∈zs,0<=y/\y<=fx!)/\zs.length=n:=by
  obtain⟨rt,st,et,_,_,dt⟩:=vw (ρ:=U) (f:=o!) (g:=T! 3) (far:=3) L7.pot (by decide) (kw (by decide)) (by rfl) (by rfl);have Lt:=L7.drawn hl dt;have t:tOf (eOp dEq (du! zB (T! 3)) C!) U s7=.ok (ki! rt 0) st:=by rw[wT,yy,et];rfl
  by_cases z:rt=0
  ·obtain⟨ra,sa,ea,aa,ba,da⟩:=vw (ρ:=U) (f:=o!) (g:=n!) (far:=n) Lt.pot (by unfold Sz at bf;lia) (kw (by unfold Sz at bf;lia)) (by rfl) (by rfl);have La:=Lt.drawn hl da;obtain⟨rb,sb,eb,ab,bb,db⟩:=vw (ρ:=U) (f:=o!) (g:=n!) (far:=n) La.pot (by unfold Sz at bf;lia) (kw (by unfold Sz at bf;lia)) (by rfl) (by rfl);have Lb:=La.drawn hl db;have lC:ra.toNat<c6!:=by lia
   have ix:=zal (d:=d! (ys[ra.toNat])) La.at_ aa (by simp[lC]);have my:=x6 ys[ra.toNat] (_G lC);refine⟨_,_,?_,Lb.set hl (ys.set rb.toNat ys[ra.toNat]),zi6 x6 my,by simp[n6]⟩;rw[uY,ke,t,Rb,_i (by simpa using z),z27];exact z5F (op3 bi! ea ix) (by rfl) eb Lb.at_ ab (by lia)
  ·refine⟨st,ys,?_,Lt,x6,n6⟩;rw[uY,ke,t,Rb,_q (by simpa using z)];rfl
 obtain⟨s8,zs,oS,L8,x8,n8⟩:=oR;have lD:a3! zs:=λz=>by rw[z]at n8;simp at n8;unfold Sz at bf;lia
 have oU:∃s9 ws,uW U s8=D! U s9/\LS s l s9 ws/\(∀y∈ws,0<=y/\y<=fx!)/\ws.length=n/\∃x∈ws,0<x:=by
  have t:=zgO (f:=zd 4) (ρ:=U) lD L8.at_ (by rfl);by_cases z:jY! zs=0
  ·refine⟨_,_,?_,L8.set hl (zs.set (h! 0).toNat 1),zi6 x8 (by lia),by simp[n8],1,?_,by decide⟩
   ·rw[uW,ke,t,Rb,_i (by simpa using z),z28];exact z5F (s1:=s8) (s2:=s8) (L:=s.length) (i:=0) (x:=1) (by rfl) (by rfl) (by rfl) L8.at_ (by decide) (by unfold Sz at bf;lia)
   ·exact List.mem_set (by unfold Sz at bf;lia) _
  ·refine⟨s8,zs,?_,L8,x8,n8,zfc lD (cW! (x8 y hy).1) z⟩;rw[uW,ke,t,Rb,_q (by simpa using z)];rfl
 obtain⟨s9,ws,oV,L9,x9,n9,w9⟩:=oU;have hk:h! 0<1+r7:=by lia
 refine⟨n,scl (1+r7) ws,s9.take cm!,?_,⟨⟨bf,by rw[znR hk,n9],ae! ?_,?_⟩,ae! ?_⟩,L9.fin hl⟩
 ·simp only[z13,z6k,Mof,z6r,st,_h,_l,_v];rw[zm p1,zm p2,zm p3,zm p4,zm p5,zm p8,zm oQ,zm oS,zm oV];have c:zt (zT (zd 4)) (ag! 7) cj! zX (hz! 1 o!) U s9=.ok (e1! (scl (1+r7) ws)) s9:=by
   rw[ut,uJ,jm];rw[show zd 4 U s9=gs! s9 from rfl];simp only[Rb,L9.at_];rw[zaW (by
    intro p hp;simp at hp;subst hp;exact L9.at_) pd! (λy=>aD! (y*(1+r7))) ws [] (by
    intro y hy;have mm:=z0O (a:=y) (b:=1+r7) s9 (x9 y hy).1 (_bn (x9 y hy).2 bB) (by lia) (kw (by lia));simp[U,mm]) (by unfold Sz at bf;simp[cap];lia)];simp[scl,_Q]
  rw[z2I,yf,xi c,z8t];simp only[Rb];exact zdS
 ·obtain⟨y,hy,rfl⟩:=iZ!;exact _bf (x9 y hy).1 (by lia)
 ·obtain⟨y,hy,h0⟩:=w9;exact⟨y*(1+r7),(znW hk).mpr hy,Int.mul_pos h0 hk⟩
 ·obtain⟨y,hy,rfl⟩:=iZ!;have b:=x9 y hy;have m1:y*(1+r7)<=fx!*(1+r7):=_ci b.2 (by lia);have:h! 2 ^ 104=20282409603651670423947251286016:=by decide
  lia
instance (A:Tb):Decidable (z0a A):=by unfold z0a;infer_instance
noncomputable def okD:Nat->eC! D
 | _,.non=>true | _,.bl _=>true | _,.int _=>true | _,.str x=>PyData.strOk x | k+1,.tup xs=>n5! (okD k) | k+1,.lst xs=>n5! (okD k) | _,_=>false
theorem zsE: ∀(xs:List D),(∀x∈xs,lP! (z90 x)/\mk! (z90 x)<=2*k+3/\PyData.eqv (z90 x) (z90 x)=c!)->PyData.canLayAll0 oU!=c!/\PyData.depthAll oU!<=2*k+4/\PyData.eqvAll oU! oU!=c!
 | [],_=>⟨rfl,by simp[tPn,PyData.depthAll],by simp[tPn,PyData.eqvAll]⟩ | x::xs,h=>by
  have h1:=h x (by simp);have h2:=zsE xs (cW! (h y (by simp[hy])));refine⟨by simp[tPc,PyData.canLayAll0,h1.1,h2.1],?_,by simp[tPc,PyData.eqvAll,h1.2.2,h2.2.2]⟩;simp only[tPc,PyData.depthAll];lia
theorem zhk:∀(k:Nat)(d:D),okD k d=c!->lP! (z90 d)/\mk! (z90 d)<=2*k+3/\PyData.eqv (z90 d) (z90 d)=c!:=by
 intro k;induction k with
 | zero=>
  intro d h;cases d with
  | str x=>change PyData.strOk x=c! at h;change lP! aY!/\mk! aY!<=_/\PyData.eqv aY! aY!=c!;simp[PyData.canLay0,PyData.depth,PyData.eqv,h] | non=>change lP! X!/\mk! X!<=_/\PyData.eqv X! X!=c!;simp[PyData.canLay0,PyData.depth,PyData.eqv] | bl b=>change lP! k7!/\mk! k7!<=_/\PyData.eqv k7! k7!=c!;simp[PyData.canLay0,PyData.depth,PyData.eqv] | int i=>change lP! aa!/\mk! aa!<=_/\PyData.eqv aa! aa!=c!;simp[PyData.canLay0,PyData.depth,PyData.eqv] | _=>exact nomatch (h:r!=c!)
 | succ k ih=>
  intro d h;cases d with
  | str x=>change PyData.strOk x=c! at h;change lP! aY!/\mk! aY!<=_/\PyData.eqv aY! aY!=c!;simp[PyData.canLay0,PyData.depth,PyData.eqv,h] | non=>change lP! X!/\mk! X!<=_/\PyData.eqv X! X!=c!;simp[PyData.canLay0,PyData.depth,PyData.eqv] | bl b=>change lP! k7!/\mk! k7!<=_/\PyData.eqv k7! k7!=c!;simp[PyData.canLay0,PyData.depth,PyData.eqv] | int i=>change lP! aa!/\mk! aa!<=_/\PyData.eqv aa! aa!=c!;simp[PyData.canLay0,PyData.depth,PyData.eqv] | tup xs=>
   have h:=_T.mp h;have q:=zsE xs (ae! (ih x (h x hx)));refine⟨by simp only[zq0,PyData.canLay0,q.1],?_,by simp only[zq0,PyData.eqv,q.2.2]⟩;simp only[zq0,PyData.depth];lia | lst xs=>
   have h:=_T.mp h;have q:=zsE xs (ae! (ih x (h x hx)));refine⟨by simp only[zpW,PyData.canLay0,q.1],?_,by simp only[zpW,PyData.eqv,q.2.2]⟩;simp only[zpW,PyData.depth];lia | _=>exact nomatch (h:r!=c!)
theorem zd9(h:okD k d=c!)(hk:k<=10):zio d=c!:=by
 have q:=zhk k d h;simp only[zio,SeqAt.shaped,q.1];simp;lia
theorem eq_self(h:okD k d=c!)(hk:k<=10)(s:Sto):dEq d d s=b3!:=by
 have q:=zhk k d h;have o:=zd9 h hk;rw[dEq,cd! o o];simp only[eqD,q.2.2]
theorem ne_self(h:okD k d=c!)(hk:k<=10)(s:Sto):dNe d d s=dZ!:=by
 have o:=zd9 h hk;rw[dNe,cd! o o];simp only[eqD,(zhk k d h).2.2];rfl
theorem ne_nil(h:okD k cq!=c!)(hk:k<=10)(s:Sto):dNe cq! (ad! []) s=bz! (!xs.isEmpty):=by
 have o:=zd9 h hk;have o2:zio (ad! [])=c!:=zd9 (k:=1) rfl (by decide);rw[dNe,cd! o o2];cases xs with
 | nil=>simp[eqD,zpW,zq0,tPn,tPc,PyData.eqv,PyData.eqvAll] | cons x xs=>simp[eqD,zpW,zq0,tPn,tPc,PyData.eqv,PyData.eqvAll]
end Pg
namespace Pn
open L2 Dd Pm Pg
noncomputable def isI:eC! D
 | .int _=>true | _=>false
def okI:eC! D
 | .int i=>jd! 0 i | _=>false
theorem zd6(h:ip! (tyD d))(s:Sto):z18 [d] s=bz! (isI d):=by cases d<;>first | rfl | cases h
theorem z0s(h:ip! (tyD d))(s:Sto):wj [d] s=bz! (isI d):=by cases d<;>first | rfl | cases h
def Kd:D->g!
 | .tup xs=>∀x∈xs,ip! (tyD x) | .scr _=>False | d=>ip! (tyD d)
theorem Kd.ty(h:Kd d):ip! (tyD d):=by cases d<;>first | rfl | exact h | exact bZ! h
theorem all_ints:∀{xs:List D},r5!=c!->∃v:List Int,xs=ca!
 | [],_=>co! [] | x::xs,h=>by
  rw[_cl,_R]at h;obtain⟨v,rfl⟩:=all_ints h.2;cases x with
  | int i=>exact co! (i::v) | _=>simp[isI]at h
theorem zkM:∀{v w:List Int},ca!=iL w->v=w
 | [],[],_=>rfl | [],_::_,h=>by cases h | _::_,[],h=>by cases h | a::v,b::w,h=>by
  simp only[iL,_u,List.cons.injEq,D.int.injEq]at h;rw[h.1,zkM (v:=v) (w:=w) h.2]
theorem zi7(v:i!):(ca!).all okI=v.all λx=>jd! 0 x:=by
 simp only[iL,List.all_map];rfl
theorem z9i{α:bL!}(l:ex!)(p:eC! α)(s:Sto):zfs [ad! (of! (λx=>D.bl (p x)))] s=bz! (l.all p):=by simp[zfs,zY,(show oc! (of! (λx=>D.bl (p x)))=b! (of! p) from by
  rw[show (of! (λx=>D.bl (p x)))=(of! p).map D.bl by rw[_ae];rfl];exact zap _)]
theorem z2p(hk:∀x∈xs,ip! (tyD x)) (s:Sto) (h:dv! x!):ya [ah!,d! x!] s=bz! r5!:=by
 have st:zv [kF!,"many"] [ah!,d! x!]=[b! ah!,e! x!]:=rfl;simp only[ya,Mof,uS,st,_h,_l,_v];rw[zm (ρ':=[b! ah!,e! x!]) (s':=s) (by simp[zi5,yH,zY])];simp only[z1D,yf,yg,zy,zP,(comp_map (fi:=cN!) (mp:=[a!]) (fg:=yh 0) (fe:=a6! z18) (ρ:=[b! ah!,e! x!]) (s:=s) (λx=>x) (λx=>D.bl (isI x)) (λx=>[dJ!]) xs (by simp) (λa _=>by rfl) (λa ha=>by simp[zd6 (hk a ha)]) (by simp[cap];lia)),Rb,z9i]
theorem z3R(s:Sto):∀(xs all:List D)(z:Option D),(∀x∈xs,ip! (tyD x))-> aF! (n5! okI) (∃z',yL [] all (ee! (yh 1 d ρ s) (yE ρ' s')) xs [t,z] s=aO! [t,z']) (yL [] all (ee! (yh 1 d ρ s) (yE ρ' s')) xs [t,z] s=j! (.rt cJ!))
 | [],all,z,_=>by simp[yL,okG] | x::xs,all,z,hk=>by
  have step:yE [t,dJ!] s=aF! (okI x) (aO! [t,dJ!]) (j! (.rt cJ!)):=by
   have w:=z0s (hk x (by simp)) s;have e1:z1N (tOf (cy! wj 1)) [t,dJ!] s=j! (! isI x):=by rw[z01,wT,cl3 k6! w];rfl
   have no:isI x=r!->yE [t,dJ!] s=j! (.rt cJ!):=λh=>by rw[yE,ke,zcD,e1,h];rfl
   cases x with
   | int i=>
    have e2:tOf (et! dLt 1 C!) [t,ch!] s=j! (ey! i 0):=by rw[wT,op3 (r:=fB! (i<0)) bi! rfl rfl];rfl
    rw[yE,ke,zcD,e1,Rb,_q (by show ¬ (!true)=c!;decide),e2,Rb,show okI aa!=jd! 0 i from rfl];by_cases h0:i<0;·rw[_a5 h0,_ap (Int.not_le.mpr h0)];rfl
    ·rw[_ap h0,_a5 (_cj.mp h0)];rfl | _=>rw[no rfl];rfl
  simp only[yL,_i (show okG [] all s from by intro p hp;cases hp),va,Rb,_L,_E,step];cases h:okI x with
  | true=>
   simp only[_v,Rb,_cl,h,Bool.true_and];exact (z3R (t:=t) s xs all dJ! (cW! (hk y (by simp[hy])))) | false=>simp[h]
theorem zmM{xs:v!}(h:n5! okI=c!):r5!=c!:=by
 rw[_T]at h ⊢;intro x hx;have:=h x hx;cases x<;>simp_all[okI,isI]
theorem zsO{f g:FE}{ρ:Ev}{s:Sto}{a b:Bool}(h1:aM!=bz! a)(h2:g ρ s=bz! b):zaN f g ρ s=bz! (a&&b):=by
 rw[z4p,h1,Rb];cases a with
 | true=>exact h2 | false=>rfl
theorem z2r{d:D}{s:Sto}{n mn mx:Int}{z w:Bool}(a1:yR [d] s=bz! z)(a2:z=c!->yH [d] s=t! n)(a3:z=c!->ya [d,d! n] s=bz! w)(a4:z=c!->w=c!->vy [d] s=t! mx/\z5K [d] s=t! mn):yZ [d] s=bz! (z&&(w&&(jd! 0 mn&&ey! 0 mx))):=by
 have st:zv cY! [d]=cQ!:=rfl;have e1:tOf (a6! yR) cQ! s=j! z:=by rw[wT,cl3 k6! a1];rfl
 have q1:∀b,fOr (fk! (a6! yR)) (fk! (du! ya ej!)) cQ! s=j! b->z3D cQ! s=aF! b (j! (.rt cJ!)) (aO! cQ!):=λb h=>by rw[z3D,ke,h];rfl
 simp only[yZ,Mof,z5Q,st,_h,_l,_v];cases z with
 | false=>rw[z0I (q1 c! (by rw[zcD,z01,e1];rfl))];rfl | true=>
  have e2:tOf (du! ya ej!) cQ! s=j! w:=by rw[wT,cl3 (gQ! bi! (cl3 k6! (a2 rfl)) rfl) (a3 rfl)];rfl
  have o:=q1 (!w) (by rw[zcD,z01,e1,Rb,Rb,_q (by decide),z01,e2];rfl);cases w with
  | false=>rw[z0I o];rfl | true=>
   obtain⟨b1,b2⟩:=a4 rfl rfl;have g1:eOp dGe (a6! z5K) C! cQ! s=fB! (0<=mn):=gS! (cl3 k6! b2) rfl;have g2:eOp dGt (a6! vy) C! cQ! s=fB! (0<mx):=gS! (cl3 k6! b1) rfl;rw[zm o,z8e,yf,zsO g1 g2];rfl
theorem zus{xs:v!}{s:Sto}{b:Bool}(h:za6 c! (d! (h! x!)) (p! [d! 2,d! 3,d! 4]) s=bz! b):xq (ag! ah!) s=aF! b (j! (.rt cJ!)) (aO! (ag! ah!)):=by
 have e1:z1N (tOf (oM! o!)) (ag! ah!) s=j! r!:=by rw[z01,wT,zjO,bi!];rfl
 have e2:tOf (eOp (za6 c!) ej! (uD (zb (T! 2) (aQ! (T! 3) (T! 4))))) (ag! ah!) s=j! b:=by rw[wT,op3 (cl3 k6! rfl) (zeC (gQ! rfl rfl (sm! rfl)) (by decide)) h];rfl
 rw[xq,ke,zcD,e1,Rb,_q (by decide),e2];cases b<;>rfl
theorem zmY(h:gIs cV! d s=dZ!):yZ [d] s=dZ!/\yz [d] s=dZ!:=by
 constructor
 ·refine z2r (n:=0) (w:=false) (mn:=0) (mx:=0) (z:=false) ?_ (λz=>nomatch z) (λz=>nomatch z) λz=>nomatch z;simp[yR,Mof,qt,zv,h]
 ·have st:zv [hL!,cv!] [d]=ag! d:=rfl;have q:xq [k!,a!] s=j! (.rt cJ!):=by
   have e1:z1N (tOf (oM! o!)) [k!,a!] s=j! c!:=by rw[z01,wT,zjO,bi!,Rb,h];rfl
   rw[xq,ke,zcD,e1];rfl
  simp only[yz,Mof,ua,st,_h,_l,_v];rw[z0I q]
theorem zj4(hd:Kd d) (s:Sto):(∃n v,d=az!/\a2!/\yZ [d] s=b3!/\yz [d] s=b3!)\/(yZ [d] s=dZ!/\yz [d] s=dZ!):=by cases d with
 | tup xs=>
  have hk:∀x∈xs,ip! (tyD x):=hd;by_cases hs:2<=x!/\x!<=4
  ·have h1:=z3t xs s hs;have h2:=z2p hk s (by lia);have gl:yH [ah!] s=t! x!:=by rfl
   have lf:xq (ag! ah!) s=aO! (ag! ah!):=by
    have:za6 c! (d! (h! x!)) (p! [d! 2,d! 3,d! 4]) s=dZ!:=by
     have hc:x!=2\/x!=3\/x!=4:=by lia
     rcases hc with hc | hc | hc<;>rw[hc]<;>rfl
    exact zus iP!
   have lp:=z3R (t:=b! ah!) s xs xs none hk;have st:zv [hL!,cv!] [ah!]=ag! ah!:=rfl;have lw:yz [ah!] s=(match zx wc vq (ag! ah!) s with | .ok (.rt d) s'=>cg! d | .ok (.nx _) s'=>cg! aJ! | _=>.no):=by
    simp only[yz,Mof,ua,st,_h,_l,_v];rw[zm lf]<;>(generalize zx wc vq (ag! ah!) s=r;cases r with
     | ok fl _=>cases fl<;>rfl | _=>rfl)
   have q3:wc (ag! ah!) s=yL [] xs (ee! (yh 1 d ρ s) (yE ρ' s')) xs (ag! ah!) s:=by
    rw[wc,qE];rfl
   have pg:∀b,(∀v:List Int,xs=ca!->(jd! 0 (minL v)&&ey! 0 i5!)=b)->(r5!=r!->b=r!)->yZ [ah!] s=bz! b:=λb hb lE=>by cases hi:r5! with
    | false=>
     rw[hi]at h2;rw[lE hi];exact z2r (mn:=0) (mx:=0) h1 (bf! gl) (bf! h2) λ_ z=>nomatch z | true=>
     rw[hi]at h2;obtain⟨v,rfl⟩:=all_ints hi;have ne:a3! v:=by rintro rfl;exact bS! hs (by decide)
     have g1:=z8k s ne;have g2:=zl2 s ne;have hb:=hb v rfl;exact a4! (z2r h1 (bf! gl) (bf! h2) λ_ _=>as! g1 g2) (by rw[<- hb];rfl)
   cases ho:n5! okI with
   | false=>
    right;rw[ho,_q (by decide)]at lp;refine⟨pg r! (λv hv=>?_) (bf! rfl),?_⟩
    ·subst hv;rw[zi7]at ho;rw[Bool.and_eq_false_iff];left;rw[decide_eq_false_iff_not];intro z;have:v.all (λx=>jd! 0 x)=c!:=by
      rw[_T];intro x hx;have:=minL_le (xs:=v) x hx;exact _a5 (by lia)
     rw[this]at ho;cases ho
    ·rw[lw,z0I (by rw[q3];exact lp)] | true=>
    rw[ho,gU!]at lp;obtain⟨z',lp⟩:=lp;obtain⟨v,rfl⟩:=all_ints (zmM ho);have ne:a3! v:=by rintro rfl;exact bS! hs (by decide)
    rw[zi7,_T]at ho;have nn:∀x∈v,0<=x:=ae! (_de (ho x hx));have g1:=z8k s ne;have lF:yz [p! ca!] s=fB! (0<i5!):=by
     rw[lw,zm (by rw[q3];exact lp)];have key:∀d:D,vy [d] s=t! i5!->vq [k!,z'] s=j! (.rt (.bl (ey! 0 i5!))):=λd a=>by simp[a]
     rw[key _ g1]
    by_cases mx:0<i5!
    ·left;have hv:Lot I! v:=by refine ck! ?_ ?_ nn ⟨i5!,kE! ne,mx⟩<;>first | rfl | (simp at hs;lia) | skip
     refine⟨I!,v,rfl,hv,zdU hv s,?_⟩;rw[lF,_a5 mx]
    ·right;refine⟨pg r! (λw hw=>?_) (bf! rfl),?_⟩
     ·have:v=w:=zkM hw;subst this;rw[_ap mx,Bool.and_false]
     ·rw[lF,_ap mx]
  ·right;constructor;·exact z2r (n:=0) (w:=false) (mn:=0) (mx:=0) (z:=false) (s:=s) (d:=ah!) (a2:=λz=>nomatch z) (a3:=λz=>nomatch z) (a4:=λz=>nomatch z) (by
     by_cases a:h! 2<=x!
     ·have:¬ h! x!<=4:=by lia
      simp[yR,Mof,qt,zv,zi5,yH,zY,a,this]
     ·simp[yR,Mof,qt,zv,zi5,yH,zY,a])
   ·have gl:yH [ah!] s=t! x!:=by rfl
    have q:za6 c! (d! (h! x!)) (p! [d! 2,d! 3,d! 4]) s=b3!:=by
     have h2:x!≠2:=by lia
     have h3:x!≠3:=by lia
     have h4:x!≠4:=by lia
     generalize xs.length=m at h2 h3 h4;have g2:¬ h! 2=m:=by lia
     have g3:¬ h! 3=m:=by lia
     have g4:¬ h! 4=m:=by lia
     have e:inV (d! (h! m)) [d! 2,d! 3,d! 4]=r!:=by
      show (h! 2==m||(h! 3==m||(h! 4==m||r!)))=r!;rw[_bK.mpr g2,_bK.mpr g3,_bK.mpr g4];rfl
     simp[za6,zaK,zY,z1K,e]
    have st:zv [hL!,cv!] [ah!]=ag! ah!:=rfl;simp only[yz,Mof,ua,st,_h,_l,_v];rw[z0I (zus q)] | scr _=>exact hd.elim | _=>
  right;have hd:=hd.ty;first
  | (exfalso;simp[tyD]at hd;done) | exact zmY rfl
theorem z1L:LeM xn xN:=LeM.mof (sx! LeS.rfl)
theorem zhN:LeM z5i z5q:=rp! (rS! z1L) (re! (re! q4!))
theorem z2A(h:yZ [d] s=dZ!):xN [d] s=.ex g5! s:=by
 have st:zv cY! [d]=cQ!:=rfl;simp[xN,kX,z3S,st,h]
theorem z7K(h:a2!)(s:Sto):xN gD! s=fh!:=z1L.ok (z12 h s)
theorem zh4(h:aM!=.ex c s'):zx f g ρ s=.ex c s':=by rw[zkw,h,R.bind_ex]
theorem zcC(h:aM!=.ex c s'):we f ρ s=.ex c s':=by rw[z0M,h,R.bind_ex]
theorem zn0(k:Nat)(b:Bool)(s:Sto):zG (k+1) [.bl b,.bl b] s=b3!:=by cases b<;>rfl
theorem same_int(k:Nat)(i:Int)(s:Sto):zG (k+1) [aa!,aa!] s=b3!:=by
 have st:zv [gf!,mi!] [aD! i,aa!]=[ch!,ch!]:=rfl;simp only[zG,Mof,jc,st,_h,_l,_v];rw[zm (show uR (zG k) [ch!,ch!] s=aO! [ch!,ch!] from rfl),zm (show ky (zG k) [ch!,ch!] s=aO! [ch!,ch!] from rfl), z2m,yf,zsO (cl3 k6! (z0s (d:=aa!) rfl s)) (op3 bi! bi! (show dEq aa! aa! s=b3! by rw[zaR,_a5 rfl]))];rfl
theorem same_str(k:Nat) (hx:PyData.strOk x=c!) (s:Sto):zG (k+1) [aY!,aY!] s=b3!:=by
 have st:zv [gf!,mi!] [D.str x,aY!]=h2! aY! aY!:=rfl;simp only[zG,Mof,jc,st,_h,_l,_v];rw[zm (show uR (zG k) (h2! aY! aY!) s=aO! (h2! aY! aY!) from rfl), z0I (d:=ew!) (s':=s) (a4! (show ky (zG k) (h2! aY! aY!) s=kB (zG k) (h2! aY! aY!) s from rfl) (by
   rw[kB,yf,zsO (op3 bi! bi! (eq_self (k:=0) (d:=aY!) hx (by decide) s)) (show eOp dEq (pW! o!) (pW! n!) (h2! aY! aY!) s=b3! from rfl)];rfl))]
def uB:Nat->D->g!
 | _,.bl _=>True | _,.int _=>True | _,.str x=>PyData.strOk x=c! | k+1,.tup xs=>i3!/\∀x∈xs,uB k x | k+1,.lst xs=>i3!/\∀x∈xs,uB k x | _,_=>False
theorem zaf:∀xs:List D,z42 xs xs=nS! (λx=>gJ! [x,x])
 | []=>rfl | x::xs=>by rw[z42,zaf xs];rfl
theorem zdQ(hl:i3!) (h:∀x∈xs,zG k [x,x] s=b3!) (d:D) (hd:d=ah!\/d=cq!):zG (k+1) [d,d] s=b3!:=by
 have st:zv [gf!,mi!] [d,d]=[k!,k!]:=rfl;have g:z8m s d=b! (xs,[]):=by rcases hd with rfl | rfl<;>rfl
 have ga:=z9i xs (bf! c!) s;have ga:zfs [ad! (nS! (λ_=>D.bl c!))] s=b3!:=by rw[ga];simp
 have gl:yH [d] s=t! x!:=by rcases hd with rfl | rfl<;>rfl
 have q2:z2S (zG k) [k!,k!] s=aO! [k!,k!]:=by rcases hd with rfl | rfl<;>rfl
 simp only[zG,Mof,jc,st,_h,_l,_v];rw[z0I (by
  rw[uR,ke];have t:tOf (zsr ea! cV! n!) [k!,k!] s=j! c!:=by rcases hd with rfl | rfl<;>rfl
  rw[t,Rb,gU!,zm q2,(show jX (zG k) [k!,k!] s=j! (.rt ew!) from by simp only[jX,yf,z4p,yy,yg,zy,zP,(comp_map (fi:=z4W (cn! o! 1)) (mp:=i9!) (fg:=yM 0 1) (fe:=cU! (zG k)) (ρ:=[k!,k!]) (s:=s) (λx=>gJ! [x,x]) (λx=>D.bl c!) (λx=>h2! x x) xs (by simp[g,zaf]) (λa _=>by rfl) (λa ha=>by simp[h a ha]) hl),Rb,ga,yi,_c,_d,gl,zaR,_dd])])]
theorem z6m:∀(k:Nat)(d:D)(s:Sto),uB k d->zG (k+1) [d,d] s=b3!
 | k,.bl b,s,_=>zn0 k b s | k,.int i,s,_=>same_int k i s | k,.str x,s,h=>same_str k (by unfold uB at h;exact h) s | k+1,.tup xs,s,h=>zdQ h.1 (ae! (z6m k x s (h.2 x hx))) _ cZ! | k+1,.lst xs,s,h=>zdQ h.1 (ae! (z6m k x s (h.2 x hx))) _ (Q! rfl) | 0,.tup xs,s,h=>by cases h | 0,.lst xs,s,h=>by cases h | k,.non,s,h=>by simp[uB]at h | k,.dct,s,h=>by simp[uB]at h | k,.loc _,s,h=>by simp[uB]at h | k,.dlo _,s,h=>by simp[uB]at h | k,.fn _,s,h=>by simp[uB]at h | k,.exc _,s,h=>by simp[uB]at h | k,.scr _,s,h=>by simp[uB]at h
theorem uB.up:∀{k:Nat}{d:D},uB k d->uB (k+1) d
 | _,.bl _,_=>by simp[uB] | _,.int _,_=>by simp[uB] | _,.str x,h=>by unfold uB at h ⊢;exact h | 0,.tup xs,h=>by cases h | 0,.lst xs,h=>by cases h | k+1,.tup xs,h=>⟨h.1,ae! (h.2 x hx).up⟩ | k+1,.lst xs,h=>⟨h.1,ae! (h.2 x hx).up⟩ | k,.non,h=>by simp[uB]at h | k,.dct,h=>by simp[uB]at h | k,.loc _,h=>by simp[uB]at h | k,.dlo _,h=>by simp[uB]at h | k,.fn _,h=>by simp[uB]at h | k,.exc _,h=>by simp[uB]at h | k,.scr _,h=>by simp[uB]at h
theorem zkA{k:Nat} (s:Sto)(h:uB 3 d):kh [d,d] s=b3!:=z6m 4 d s h.up
theorem zaz(s:Sto)(x y:fD!):∀(k:Nat)(a b:Int),0<=a->0<=b->pe!<k-> wO (eg! 3 C!) z0Q k [x,e! a,y,a7!] s=aO! [x,e! (cg a b),y,e! 0]
 | 0,a,b,_,_,h=>by lia | k+1,a,b,ha,hb,h=>by
  rw[wO];by_cases e:b=0
  ·subst e;simp[zhs ha]
  ·have b0:0<b:=by lia
   have h2:=_bm a b0;have e1:tOf (et! dNe 3 C!) [x,e! a,y,a7!] s=j! c!:=by simp[e]
   rw[e1,Rb,(show z0Q [x,e! a,y,a7!] s=aO! [x,a7!,y,e! (a % b)] from by simp[(z67 (a:=a) s b0)])];show wO _ _ k _ s=_;rw[(zaz s x y k b (a % b) hb (_a9 a (show b≠0 by lia)) (by lia)),zgP b0]
theorem z8l(s:Sto)(x:fD!):∀(v:List Int)(a:Int)(all:List D)(z z2:Option D),0<=a->(∀x∈v,0<=x)->∃z' fM,yL [] all (ee! (yh 2 d ρ s) (zx z0q z0c ρ' s')) ca! [x,e! a,z,z2] s=aO! [x,e! (oO! a),z',fM]
 | [],a,all,z,z2,_,_=>⟨z,z2,by simp[yL,okG]⟩ | b::v,a,all,z,z2,ha,hv=>by
  obtain⟨z',fM,ih⟩:=z8l s x v (cg a b) all a7! (e! 0) (by simp[cg]) λw hw=>hv w (by simp[hw]);refine aV! z' fM ?_;simp only[iL,_u,yL];rw[_i (by intro p hp;cases hp)];have e2:z0c [x,e! a,a7!,a7!] s=aO! [x,e! (cg a b),a7!,e! 0]:=by exact z2B (zaz s x a7! (pe!+1) a b ha (hv b (by simp)) (by lia)) (by simp)
  rw[va,Rb];simp only[_L,_E];rw[zm (show z0q [x,e! a,a7!,z2] s=aO! [x,e! a,a7!,a7!] from by rfl),e2];exact ih
theorem zpb(h:a2!) (s:Sto):qa gD! s=t! f6!:=by
 have st:zv [kH!,gf!,cv!,dV!] gD!=[ak!,a!,a!,a!]:=rfl;obtain⟨z',fM,lp⟩:=z8l s ak! v 0 ca! a! a! (by lia) fT!;simp only[qa,Mof,z6y,st,_h,_l,_v];rw[zm (ρ':=fE! az! c4! a!) (s':=s) (by rfl),zm (ρ':=[ak!,e! (oO! 0),z',fM]) (s':=s) (by exact lp)];rfl
theorem part3{f:FE}{ρ:Ev}{s s1:Sto}{i:Int}(h:aM!=M! aa!):yt f ρ s=M! h0!:=by rw[z1J,h,Rb]
theorem sl3{f:FE}{fl fh:FO}{ρ:Ev}{s s1 s2 s3:Sto}{x:D}{lo hi:dd!}{r:R D}(h:aM!=M! x)(h1:fl ρ s1=bD! lo)(h2:fh ρ s2=.ok hi s3)(h3:dSl x lo hi s3=r):eSl f fl fh ρ s=r:=by rw[zbB,h,Rb,h1,Rb,h2,Rb,h3]
structure Bn(m:Nat)(d:D):g! where
 kd:Kd d
 bd:∀xs i,d=ah!->aD! i∈xs->hJ!<2 ^ m
theorem Bn.tup{m:Nat}{xs:v!}(h:∀x∈xs,ip! (tyD x)/\∀i,x=aa!->hJ!<2 ^ m):Bn m ah!:= ⟨ae! (h x hx).1,λys i e hi=>by cases e;exact (h _ hi).2 i rfl⟩
abbrev Itm(N:Nat)(x:D):g!:=ip! (tyD x)/\∀i,x=aa!->hJ!<N
theorem Itm.i{N:Nat}{z:Int}(h:z.natAbs<N):Itm N (d! z):=iq! (λi e=>by cases e;exact h)
theorem Itm.o{N:Nat}{x:D}(h:ip! (tyD x))(hn:isI x=r!):Itm N x:=⟨h,λi e=>by cases e;cases hn⟩
theorem faN{P:D->g!}:∀x∈([]:v!),P x:=λ_ h=>nomatch h
theorem faC{P:D->g!}{a:D}{l:v!}(h:P a)(k:∀x∈l,P x):∀x∈a::l,P x:=_cp.mpr ⟨h,k⟩
theorem faA{P:D->g!}{a l:v!}(h:∀x∈a,P x)(k:∀x∈l,P x):∀x∈a++l,P x:=λx q=>mK! q (h x) (k x)
theorem nb9{x:Int}{N:Nat}(h:iS!+1<N):bg! (x+1)<N/\bg! (x-1)<N/\bg! (0-x)<N:=by lia
theorem zoi{n:Nat}(h:n<=99):n<=cap:=_H h (by decide)
def zvh:eC! D
 | .tup _=>true | _=>false
theorem Bn.o{m:Nat}{d:D}(h:Kd d)(hn:zvh d=r!):Bn m d:=⟨h,λxs i e _=>by cases e;cases hn⟩
theorem Bn.row(h:∀x∈v,do! m):Bn m az!:=j2! (ae! (by
 obtain⟨y,hy,rfl⟩:=iZ!;exact iq! (λi e=>by cases e;exact h _ hy)))
noncomputable def zjY:v!:=[aJ!,ew!,cJ!,d! (-1),c4!,d! 7,d! fx!,aI! "",aI! "1:0",p! [],p! [c4!,c4!],p! [d! 1],ad! (bW! 1 0),.dct,p! [p! (bW! 1 0),p! (bW! 0 1)],p! [ew!,d! 2]]
inductive TkD(iI:R D)(P:D->g!)(s:Sto)(l:Nat):g! | mk (d:D)(s':Sto)(e:iI=cg! d)(b:P d)(c:kN s s' l)
theorem zqp(h:Pot s l):TkD (vK [dK!] s) (· ∈ zjY) s l:=by
 have st:zv [fd!,iR!] [dK!]=[N!,a!]:=rfl;have q1:z43 [N!,a!] s=aO! [N!,L! [aJ!,ew!,cJ!,d! (-1),c4!,d! 7,d! fx!,aI! "",aI! "1:0",p! [],p! [c4!,c4!],p! [d! 1],ad! (bW! 1 0),.dct]]:=by rfl
 obtain⟨r,s',e,a,b,dr⟩:=vw (f:=o!) (g:=T! 16) (far:=16) (ρ:=[N!,L! [aJ!,ew!,cJ!,d! (-1),c4!,d! 7,d! fx!,aI! "",aI! "1:0",p! [],p! [c4!,c4!],p! [d! 1],ad! (bW! 1 0),.dct]]) h (by decide) (kw (by decide)) (by rfl) (by rfl);have hr:r.toNat<zjY.length:=by simp[zjY];lia
 have ix:=wV (xs:=zjY) (d:=zjY[r.toNat]) (s:=s') a (by simp[hr]);refine⟨zjY[r.toNat],s',?_,_G hr,dr⟩;simp only[vK,Mof,z75,st,_h,_l,_v];rw[zm q1,z3K,yf,yy];have c:eOp yW n! (kQ (aQ! (cF! (cF! ao! C!) (cF! C! ao!)) (cF! (eC ew!) (T! 2)))) [N!,L! [aJ!,ew!,cJ!,d! (-1),c4!,d! 7,d! fx!,aI! "",aI! "1:0",p! [],p! [c4!,c4!],p! [d! 1],ad! (bW! 1 0),.dct]] s=bt! zjY:=by rfl
 rw[c,Rb,e,Rb,ix,Rb]
theorem zlR(h:d∈zjY)(hm:2<=m):Bn m d:=by
 have h2:2 ^ 2<=2 ^ m:=_C (by decide) hm;exact (eV! k1! k1! (eV! k1! k1! (eV! k1! k1! (eV! k1! k1! (eV! k1! (j2! faN) (eV! (j2! (eV! (Itm.i (by lia)) (Itm.i (by lia)) faN)) (j2! (faC (Itm.i (by lia)) faN)) (eV! k1! k1! (eV! (j2! (eV! (Itm.o rfl rfl) (Itm.o rfl rfl) faN)) (j2! (eV! (Itm.o rfl rfl) (Itm.i (by lia)) faN)) faN))))))):∀x∈zjY,Bn m x) _ h
theorem znJ{v:i!} {k:Nat} (hk:k<I!) (s:Sto):∃y∈v,c1! az! (h! k-1) s=t! y:=by cases k with
 | zero=>
  simp only[dIx,zY,atI,(show ixN (q! ca!) (dX! 0-1)=b! (I!-1) from by
   unfold ixN;simp;lia),_N];simp[(show I!-1<I! from by lia)] | succ k=>
  have hl:k<I!:=by lia
  refine⟨v[k],_G hl,?_⟩;rw[show (Z! (k+1)-1)=k by lia];exact (z8h (xs:=ca!) (j:=k) (d:=d! (v[k])) s (by simp[hl]))
theorem zi4(h:Pot s l) (hv:∀x∈v,do! m) (hm:104<=m) (h1:1<=I!) (h4:I!<=4):TkD (xh [dK!,az!] s) (Bn (m+1)) s l:=by
 have st:zv [fd!,pr!,eQ!,"_law_odd_here",iR!] [dK!,az!]=kk! N! ak! a!:=rfl;have gl:∀s,yH gD! s=t! I!:=λs=>by simp[yH,zY]
 obtain⟨r1,s1,e1,a1,b1,d1⟩:=vw (f:=o!) (g:=hv! 1) (far:=v.length) (ρ:=kk! N! ak! a!) h (by lia) (kw (by lia)) (by rfl) (by simp only[yg,zy,zP,yi,_d,_c,Rb,gl]);obtain⟨k,rfl⟩:∃k:Nat,r1=k:=⟨r1.toNat,by lia⟩;have hk:k<I!:=by lia
 have q1:kq (kk! N! ak! a!) s=g0! (kk! N! ak! bk!):=by rw[kq,zN,e1];rfl
 have oW:∀s,c1! az! k s=t! (v[k]):=λs=>z8h (xs:=ca!) (j:=k) (d:=d! (v[k])) s (by simp[hk]);obtain⟨y,hy,oX⟩:=znJ hk s1;have bp:∀{i:Int},hJ!<2 ^ m->hJ!+1<2 ^ (m+1):=λ{i} hi=>by
  have:2 ^ (m+1)=2 ^ m*2:=_dN ..;have:0<2 ^ m:=Nat.pow_pos (by decide);lia
 have hx:=bp (hv _ (_G hk));let L10:v!:=[d! (v[k]+1),d! (v[k]-1),d! (0-v[k]),c4!,ew!,aJ!,aI! "1",p! [d! 1],d! fx!,d! y];have hL:∀e∈L10,Itm (2 ^ (m+1)) e:=by
  have iG:bg! (h! fx!)<2 ^ (m+1):=_j (by decide:bg! (h! fx!)<2 ^ 105) (_C (by decide) (by lia));have oY:=bp (hv _ hy);exact eV! (.i (nb9 hx).1) (.i (nb9 hx).2.1) (eV! (.i (nb9 hx).2.2) (.i (Nat.pow_pos (by decide))) (eV! (.o rfl rfl) (.o rfl rfl) (eV! (.o rfl rfl) (.o rfl rfl) (eV! (.i iG) (.i (Nat.lt_of_succ_lt oY)) faN))))
 have q2:kF (kk! N! ak! bk!) s1=g0! [N!,ak!,bk!,L! L10,a!]:=by
  have key:∀d:D,c1! d k s1=M! (d! (v[k]))->c1! d (h! k-1) s1=M! (d! y)->kF (kk! N! k! bk!) s1=g0! [N!,k!,bk!,L! L10,a!]:=λd c1 c2=>by
   have ix:=op3 (f:=n!) (g:=H!) (ρ:=kk! N! k! bk!) bi! bi! c1;exact zn1 (zfk (gQ! (gS! ix rfl) (gS! ix rfl) (gQ! (op3 rfl ix rfl) rfl (gQ! rfl rfl (gQ! rfl (zeC (sm! rfl) (by decide)) (gQ! (gS! rfl (zoM s1)) (op3 bi! (gS! bi! rfl) c2) rfl))))) (by show 10<=cap;decide))
  exact key _ (oW s1) oX
 obtain⟨r2,s2,e2,a2,b2,d2⟩:=vw (f:=o!) (g:=je!) (far:=10) (ρ:=[N!,ak!,bk!,L! L10,a!]) d1.pot (by decide) (kw (by decide)) (by rfl) (by rfl);have lG:r2.toNat<L10.length:=by show r2.toNat<10;lia
 have lH:=wV (xs:=L10) (d:=L10[r2.toNat]) (s:=s2) a2 (_b lG);have he:=hL _ (_G lG);generalize L10[r2.toNat]=e at lH he;have q3:jS [N!,ak!,bk!,L! L10,a!] s1=D! [N!,ak!,bk!,z!,a!] s2:=by
  rw[jS,zN,yy];simp only[yi,_d,_c,Rb];rw[e2,Rb,lH];rfl
 have sk:∀s,dSl az! a! (b! (h! k)) s=bc! ((ca!).take k):=λs=>z32 _ _ _;have sd:∀s,dSl az! (b! (h! k)) a! s=bc! ((ca!).drop k):=λs=>z1O _ _ _;have lI:∀s,dSl az! (b! (h! k+1)) a! s=bc! ((ca!).drop (k+1)):=λs=>z1O ca! (k+1) s;have lv:q! ca!=I!:=by simp
 generalize hT:(ca!).take k=T at sk;generalize hU:(ca!).drop k=U at sd;generalize hW:(ca!).drop (k+1)=W at lI;have lT:br!<=4:=by rw[<- hT,_bE];lia
 have lU:U.length<=4:=by rw[<- hU,_ax];lia
 have lW:W.length<=4:=by rw[<- hW,_ax];lia
 have cw:∀x∈ca!,Itm (2 ^ (m+1)) x:=ae! (by
  obtain⟨z,hz,rfl⟩:=iZ!;exact .i (by have:=bp (hv _ hz);lia))
 have iT:∀x∈T,Itm (2 ^ (m+1)) x:=ae! (cw x (_S (hT ▸ hx)));have iU:∀x∈U,Itm (2 ^ (m+1)) x:=ae! (cw x (_aC (hU ▸ hx)));have iW:∀x∈W,Itm (2 ^ (m+1)) x:=ae! (cw x (_aC (hW ▸ hx)));obtain⟨o,s3,e3,ho,d3⟩:=zqp (l:=l) (d1.trans d2).pot;let dP:v!:=[p! (T++[e]++W),p! (T++[e]++W),p! (T++W),e1! v,p! (T++[c4!]++U),p! (ca!).reverse,p! (ca!++ca!),p! (lK! c4!),o,p! gD!];have q5:kA [N!,ak!,bk!,z!,L! [p! (T++[e]++W),p! (T++[e]++W),p! (T++W),e1! v]] s2=D! [N!,ak!,bk!,z!,L! dP] s3:=by
  have c1:br!+1<=cap:=zoi (by lia);have c2:q! (T++[aD! 0])+U.length<=cap:=zoi (by rw[_ar];show br!+1+U.length<=99;lia);have c4:dX! 1<=cap:=by decide
  have c5:dX! 6<=cap:=by decide
  have c6:dX! 10<=cap:=by decide
  have ad:yW az! az! s2=bD! (p! (ca!++ca!)):=by rw[z3X,_i (zoi (by lia))]
  have rv:zq9 n! [N!,ak!,bk!,z!,L! [p! (T++[e]++W),p! (T++[e]++W),p! (T++W),e1! v]] s2=bD! (p! (ca!).reverse):=by rfl
  have key:∀(d g rv aa rr x4:D) (z:List D),pj!=4->x4=ad! z->dSl d a! (b! (h! k)) s2=bD! (p! T)->dSl d (b! (h! k)) a! s2=bD! (p! U)->yH [d] s2=bD! (d! I!)->yW d d s2=bD! aa->zga (p! [c4!]) (d! I!) s2=bD! rr-> zq9 n! [N!,k!,bk!,z!,b! x4] s2=bD! rv->kA [N!,k!,bk!,z!,b! x4] s2=D! [N!,k!,bk!,z!,L! (z++[p! (T++[c4!]++U),rv,aa,rr,o,p! [d]])] s3:=λd g rv aa rr x4 z hz oZ x1 x2 x3 x5 x6 x7=>by
   subst oZ;exact zn1 (op3 bi! (zfk (gQ! (op3 (op3 (sl3 bi! rfl (part3 bi!) x1) (zeC (sm! rfl) (by decide)) (zhm c1)) (sl3 bi! (part3 bi!) rfl x2) (zhm c2)) x7 (gQ! (op3 bi! bi! x5) (op3 (zeC (sm! rfl) (by decide)) (cl3 k6! x3) x6) (gQ! (cl3 k6! e3) (zeC k6! (by show 1<=cap;decide)) rfl))) (by show 6<=cap;decide)) (zt3 (by rw[hz];show 10<=cap;decide)))
  exact key _ (ad! []) _ _ _ _ _ rfl rfl (sk s2) (sd s2) (gl s2) ad (by
   rw[zmi,_i ⟨by lia,by decide,by simp[cap];lia⟩];congr 2;rw[_V];generalize v.length=n;induction n with
   | zero=>rfl | succ n ih=>rw[_aR,_bw,ih];rfl) rv
 obtain⟨r4,s4,e4,a4,b4,d4⟩:=vw (f:=o!) (g:=je!) (far:=10) (ρ:=[N!,ak!,bk!,z!,L! dP]) d3.pot (by decide) (kw (by decide)) (by rfl) (by rfl);have lJ:r4.toNat<dP.length:=by show r4.toNat<10;lia
 have o0:=wV (xs:=dP) (d:=dP[r4.toNat]) (s:=s4) a4 (_b lJ);have hM:∀d∈dP,Bn (m+1) d:=by
  have fN:Bn (m+1) (p! (T++[e]++W)):=j2! (faA (faA iT (faC he faN)) iW);have z0:Itm (2 ^ (m+1)) c4!:=.i (Nat.pow_pos (by decide));exact eV! fN fN (eV! (j2! (faA iT iW)) k1! (eV! (j2! (faA (faA iT (faC z0 faN)) iU)) (j2! (ae! (cw x (List.mem_reverse.mp hx)))) (eV! (j2! (faA cw cw)) (j2! (ae! ((List.mem_replicate.mp hx).2 ▸ z0))) (eV! (zlR ho (by lia)) (j2! (faC (Itm.o rfl rfl) faN)) faN))))
 refine⟨dP[r4.toNat],s4,?_,hM _ (_G lJ),a4! (a4! (d1.trans d2) d3) d4⟩;simp only[xh,Mof,z49,st,_h,_l,_v];rw[zm q1,zm q2,zm q3,zm (by
  have g:z76 gD! s2=bD! (e1! v):=by rfl
  have c1:br!+1<=cap:=zoi (by lia);have c2:q! (T++[e])+W.length<=cap:=zoi (by rw[_ar];show br!+1+W.length<=99;lia);have c3:br!+W.length<=cap:=zoi (by lia);have c4:dX! 1<=cap:=by decide
  have c5:dX! 4<=cap:=by decide
  have key:∀(d g:D),dSl d a! (b! (h! k)) s2=bD! (p! T)->dSl d (b! (h! k+1)) a! s2=bD! (p! W)->z76 [d] s2=bD! g->z23 [N!,k!,bk!,z!,a!] s2=D! [N!,k!,bk!,z!,L! [p! (T++[e]++W),p! (T++[e]++W),p! (T++W),g]] s2:=λd g x1 x2 x3=>by
   have sT:=sl3 (f:=n!) (fl:=zC) (fh:=yt H!) (ρ:=[N!,k!,bk!,z!,a!]) bi! rfl (part3 bi!) x1;have sW:=sl3 (f:=n!) (fl:=yt (gt! 2)) (fh:=zC) (ρ:=[N!,k!,bk!,z!,a!]) bi! (part3 (gS! bi! rfl)) rfl x2;have w:=op3 (op3 sT (zeC (ac3 (f:=ba!) (g:=zj) bi! rfl) (by show 1<=cap;decide)) (zhm c1)) sW (zhm c2);exact zn1 (zfk (gQ! w w (gQ! (op3 sT sW (zhm c3)) (cl3 k6! x3) rfl)) (by show 4<=cap;decide))
  exact key _ _ (sk s2) (lI s2) g),zm q5,z2c,yf,yy];simp only[yi,_d,_c,Rb];rw[e4,Rb,o0,Rb]
end Pn
namespace Pm
theorem ziU(h:Lot n z)(he:nm! z=c!):∃k,k<n/\jM! k=z2V z/\0<z2V z/\∀j,j≠k->jM! j=0:=by
 have l1:ho! z=1:=by simpa[ended] using he
 obtain⟨x,hx,x0⟩:=h.pos;obtain⟨k,hk,e⟩:=oV!;have gk:jM! k=x:=by simp[_b hk,e]
 have oth:∀j,j≠k->jM! j=0:=by
  intro j hj;apply _Y;intro hz;have lK:∀(v:List Int)(a b:Nat),a<b->bs! a≠0->fJ!≠0->2<=ho! v:=by
   intro v;induction v with
   | nil=>intro a b _ h1;simp at h1 | cons y v ih=>
    intro a b lL h1 h2;cases b with
    | zero=>lia | succ b=>
     have hb:fJ!≠0:=by exact h2
     cases a with
     | zero=>
      have:1<=ho! v:=_bN.mpr λq=>by
       have:=qX! ⟨hb! (by
       apply _Y;intro q;exact hb (by simp[_M (qW! q)])),hb⟩;rw[q]at this;cases this
      simp only[nz,_aE,(by simpa using h1),ne_eq,not_false_eq_true,_dd,_v,_h]at this ⊢;lia | succ a=>
      have:=ih a b (by lia) (by exact h1) hb;simp only[nz,_aE]at this ⊢;split;·simp only[_h];lia
      ·exact this
  rcases Nat.lt_or_gt_of_ne hj with q | q;·have:=lK z j k q hz (by lia);lia
  ·have:=lK z k j q (by lia) hz;lia
 have fO:z.sum=x:=by
  have:∀(v:List Int)(k:Nat),k<I!->(∀j,j≠k->bs! j=0)->v.sum=bs! k:=by
   intro v;induction v with
   | nil=>intro k hk;cases hk | cons y v ih=>
    intro k hk ho;cases k with
    | zero=>
     have:∀w:List Int,(∀j,w.getD j 0=0)->w.sum=0:=by
      intro w;induction w with
      | nil=>intro _;rfl | cons u w ihw=>
       intro hw;rw[_aM,(show u=0 from by exact hw 0),ihw λj=>by exact hw (j+1)];rfl
     rw[_aM,this v λj=>by exact ho (j+1) (by lia)];simp | succ k=>
     rw[_aM,ih k (by simpa using hk) λj hj=>by exact ho (j+1) (by lia),(show y=0 from by exact ho 0 (by lia))];simp
  rw[this z k hk oth,gk]
 rw[(zhS h he)]at fO;exact⟨k,by rw[<- h.len];exact hk,by rw[gk,fO],by lia,oth⟩
theorem z8p:∀{r z:List Int}{k:Nat},aK!=pj!->(∀j,j≠k->jM! j=0)->hF! z=cL! k*jM! k
 | [],[],k,_,_=>by rfl | a::r,b::z,k,hl,h=>by cases k with
  | zero=>
   rw[dot_cons,(show ∀(r z:List Int),(∀j,jM! j=0)->hF! z=0 from by
    intro r;induction r with
    | nil=>cases z<;>simp[dot] | cons u r ih=>
     intro z hz;cases z with
     | nil=>rfl | cons y z=> rw[dot_cons,(show y=0 from by exact hz 0),ih z λj=>by exact hz (j+1)];simp) r z λj=>by exact h (j+1) (by lia)];simp | succ k=>
   rw[dot_cons,z8p (k:=k) (by simpa using hl) λj hj=>by exact h (j+1) (by lia),(show b=0 from by exact h 0 (by lia))];simp
 | [],_::_,_,h,_=>by cases h | _::_,[],_,h,_=>by cases h
theorem z9p(g:Int):∀(v w:List Int),dot v (w.map λx=>x*g)=dot v w*g
 | [],_=>by simp[dot] | _::_,[]=>by simp[dot] | a::v,b::w=>by
  rw[_u,dot_cons,dot_cons,z9p g v w];grind
theorem z6n:∀v:List Int,0<=eD! v
 | []=>by decide | a::v=>by
  have:=z6n v;have h:0<=a*a:=by
   rcases Int.le_total 0 a with q | q;·exact _bf q q
   ·exact _bV q q
  rw[dot_cons];lia
theorem zjc(hn:a9!)(hx:x.length=n)(hk:k<n):jG! 4 (x::q5! bu! k)=bg! (x.getD k 0):=by
 rcases hn with rfl | rfl | rfl
 ·obtain⟨a,b,rfl⟩:=z8W hx;match k,hk with
  | 0,_=>rw[zr6];simp[za8,d2] | 1,_=>rw[zr6];simp[za8,d2]
 ·obtain⟨a,b,c,rfl⟩:=z7s hx;match k,hk with
  | 0,_=>rw[zqX];simp[z80 1,d3,d2] | 1,_=>rw[zqX];simp[z80 1,d3,d2] | 2,_=>rw[zqX];simp[z80 1,d3,d2]
 ·obtain⟨a,b,c,d,rfl⟩:=z6f hx;match k,hk with
  | 0,_=>rw[zqc];simp[jK 0,d4,d3,d2] | 1,_=>rw[zqc];simp[jK 0,d4,d3,d2] | 2,_=>rw[zqc];simp[jK 0,d4,d3,d2] | 3,_=>rw[zqc];simp[jK 0,d4,d3,d2]
theorem zbU(hB:eW! B)(hv:I!=n)(hk:k<n):eW! (v::he!):=by
 refine⟨?_,c9! ?_⟩;·rw[_h,List.length_eraseIdx_of_lt (by rw[hB.len];exact hk),hB.len];lia
 ·rcases eK! hr with rfl | hr;·exact hv
  ·exact hB.row r (List.mem_of_mem_eraseIdx hr)
theorem zab{α β:bL!}(f:α->β):∀(l:List α)(k:Nat),(l.eraseIdx k).map f=q5! mN! k
 | [],_=>by rfl | a::l,0=>by rfl | a::l,k+1=>by simp[zab f l k]
theorem ziA(hn:a9!)(hP:eW! P)(hf:z0a P)(hv:I!=n)(hz:pj!=n)(hk:k<n)(g0:0<g)(e:mv P z=v)(zk:jM! k=g)(zo:∀j,j≠k->jM! j=0): h! (jG! 4 (v::q5! (gL! P) k))*g=eD! v:=by
 have tM:=zbU (z0V hP) hv hk;have bm:=(z72 hn hP hf).1;rw[z04 hn (z0V hP) hP]at bm;have du:=zjc hn (show q! (zcX P v)=n from by simp[zcX,ye,hP.len]) hk;rw[<- (show qV (v::q5! (gL! P) k) P=zcX P v::q5! bu! k from by rw[z04 hn tM hP,_u,zab,bm]),(zdL hn tM hP)]at du;have xk:bj! (zcX P v) k=dot v (P.map λr=>cL! k):=by simp[zcX,ye,(show k<P.length from by rw[hP.len];exact hk)]
 have xg:bj! (zcX P v) k*g=eD! v:=by rw[xk,<- z9p,<- (show v=(P.map λr=>cL! k).map λx=>x*g from by
  rw[<- e,_ae];refine _ao (c9! ?_);rw[z8p (by rw[hP.row r hr,hz]) zo,zk];rfl)]
 have nn:=z6n v;rw[(show jG! 4 (v::q5! (gL! P) k)=bg! (bj! (zcX P v) k) from by
  rw[<- du];rcases hf with q | q<;>rw[q]<;>simp),_bC (by
  apply _Y;intro q;have:bj! (zcX P v) k*g<0:=_a6 (by lia) g0;lia),xg]
theorem zaD{α:bL!}{f:α->Int}:∀{L:List α}{k:Nat}{g:Int},k<aA!->g≠0->bj! (oi! f) k=g->(∀j,j≠k->bj! (oi! f) j=0)-> L.filter (λx=>bw! (f x=0))=L.eraseIdx k/\∃b,E! L k b/\L.filter (λx=>cK! (f x) 0)=[b]
 | [],k,g,h,_,_,_=>by cases h | a::L,0,g,_,g0,e,o=>by
  have fa:f a=g:=by exact e
  have zrM:∀x∈L,f x=0:=by
   intro x hx;obtain⟨i,hi,rfl⟩:=oV!;simpa[hi] using (o (i+1) (by lia))
  refine fg! (by simp[fa,g0,(_bO.mpr (ae! (by simp[zrM x hx])):L.filter (λx=>bw! (f x=0))=L)]) a ?_;rw[_aE,(_bl.mpr (ae! (by simp[zrM x hx])))];simp[fa,g0] | a::L,k+1,g,h,g0,e,o=>by
  have fa:f a=0:=by exact o 0 (by lia)
  obtain⟨i1,b,i2,i3⟩:=zaD (by simpa using h) g0 (by exact e) λj hj=>by exact o (j+1) (by lia)
  refine⟨by simp[fa,i1],b,by exact i2,?_⟩;rw[_aE,i3];simp[fa]
end Pm
namespace Pg
open L2 Dd Pm
theorem vr(h:aj! ρ k!):zd i ρ s=j! d:=by rw[yi,h]
theorem zil(h:t ρ s=j! r!):fIf t f g ρ s=g ρ s:=by rw[ke,h,Rb,_q (by decide)]
theorem ztp(h:t ρ s=j! r!)(h2:u ρ s=j! r!):fOr t u ρ s=j! r!:=by rw[zcD,h,Rb,_q (by decide),h2]
theorem z2q(h:aM!=bz! b):tOf f ρ s=j! b:=by rw[wT,h];rfl
theorem zpY(h:t ρ s=j! c!):z1N t ρ s=j! r!:=by rw[z01,h];rfl
theorem zaJ(hv:e5!)(hu:qZ!=n)(hb:∀y∈u,nl!<2 ^ k)(hm:m<=bH!)(hk:k<=bH!)(s:Sto):wJ [az!,rD u,d! x] s=fB! (eD! u=x):=by
 have w2 := z3C s hb hv.abs hk hm (by have:=hv.sz;lia);have key:hM! (ya [e,d! n] s=b3!->xQ [e,d] s=t! (eD! u)->yH [d] s=t! n->wJ [d,e,d! x] s=fB! (eD! u=x)):=λd e a1 a2 a3=>by simp[wJ,Mof,z33,zv,a1,a2,a3]
 exact key _ _ (by
  have:=z0d u s (by have:=hv.sz;lia);rw[hu]at this;exact this) w2 (by simp[yH,zY,hv.len])
structure Sh(r:Rl)(n:Nat)(v:i!)(ls:ff!)(z:i!)(k:Nat)(B:Tb)(b:i!):g! where
 run:f8! v
 len:oW!
 last:ls.getLast? = b! z
 lot:Lot n z
 kn:k<n
 zk:jM! k=f6!
 zo:∀j,j≠k->jM! j=0
 g0:0<f6!
 B_:B=gL! hD!
 tab:eW! B
 bd:Bd 318 B
 fair:z0a hD!
 ptab:eW! hD!
 pbd:Bd 104 hD!
 mvB:mv B v=z
 at_:E! B k b
 fz:B.filter (λx=>bw! (eD! x=0))=he!
 fn:B.filter (λx=>cK! (eD! x) 0)=[b]
 det:h! (bg! (Pm.det 4 (v::he!)))*f6!=eD! v
theorem zpF(r:Rl)(h:l5!):∃ls z k B b,Sh r n v ls z k B b:=by
 obtain⟨ls,Rn,ll⟩:=zlB (20*104+3) v dA! (zrd (r:=r) h.toLot h.toN);obtain⟨z,lz,ez,Lz,gz,PZ⟩:=Rn.whole dA! (cW! (by have:=h.bd y hy;lia):∀y∈v,y<=2 ^ 104-1);obtain⟨k,hk,zk,g0,zo⟩:=ziU Lz ez;rw[gz]at zk g0;have lM:Bd 104 hD!:=zmQ PZ (by lia);have n4:2<=q! hD!/\q! hD!<=4:=by have:=PZ.tab.len;have:=h.sz;lia
 have tB:=z0V PZ.tab;have o6 := zma lM n4.1 n4.2 sr!;have mB:mv (gL! hD!) v=z:=by
  have:=zmu jy! PZ.tab sr! Lz.len;rw[PZ.eq]at this;exact this
 have lN:(gL! hD!).map (λx=>eD! x)=z:=mB;obtain⟨f1,b,f2,f3⟩:=zaD (g:=f6!) (by rw[tB.len];exact hk) (by lia) (by rw[lN];exact zk) (λj hj=>by rw[lN];exact zo j hj);exact⟨ls,z,k,_,b,Rn,by lia,lz,Lz,hk,zk,zo,g0,rfl,tB,o6,sr!,PZ.tab,lM,mB,f2,f1,f3,ziA jy! PZ.tab sr! h.len Lz.len hk g0 PZ.eq zk zo⟩
section
variable {n:Nat}{v:i!}{r:Rl}{ls:ff!}{z:i!}{k:Nat}{B:Tb}{b:i!}
theorem Sh.rowb(S:Sh r n v ls z k B b):∀x∈B,x.length=n/\∀y∈x,nl!<2 ^ 318:=ae! ⟨S.tab.row x hx,S.bd x hx⟩
theorem zcY(h:l5!) (S:Sh r n v ls z k B b) (s:Sto):∀x∈B,xQ [rD x,az!] s=t! (eD! x):=ae! (z3C s (S.bd x hx) h.abs (by decide) (by decide) (by have:=S.tab.row x hx;have:=h.sz;lia))
end
end Pg
namespace Pg
open L2 Dd Pm
theorem jg{ar:FA}{ρ:Ev}{s s1:Sto}{n:Nat}(hn:dv! n)(h:ar ρ s=M! [d! n]):jw ar ρ s=M! (aR! n (fW! (Z! k)),[]):=by
 rw[zdX,h,Dd.R.bind_ok];simp only;rw[cd! (by lia) (by lia)];rfl
end Pg
namespace Pn
open L2 Dd Pm Pg
def z1B(n:Nat):eC! D
 | .tup ys=>ki! c6! n&&ys.all isI | _=>false
theorem z8U{n:Nat}(hk:Kd x)(hn:dv! n)(s:Sto):ya [x,d! n] s=bz! (z1B n x):=by cases x with
 | tup ys=>
  by_cases h:c6!=n
  ·subst h;rw[z2p hk s hn];simp[z1B]
  ·simp[ya,Mof,uS,zv,gIs,tyD,isT,yH,zY,(show ¬ (h! c6!=n) from by lia),z1B,h] | scr _=>exact hk.elim | _=>
  have hd:=hk.ty;first
  | (simp[tyD]at hd;done) | rfl
theorem Bn.up(h:Bn m d)(hk:m<=k):Bn k d:=⟨h.kd,λxs i e hi=>_j (h.bd xs i e hi) (_C (by decide) hk)⟩
theorem z9j:LeM yF z0m:=LeM.mof (sx! LeS.rfl)
theorem zlL(s:Sto) (hm:m<=bH!) (hk:k<=bH!):∀(ps:List (Int×Int)) (aD:Int) (all:List D) (a b:Option D),(∀p∈ps,bg! p.1<2 ^ m/\bg! p.2<2 ^ k)-> ∃a' b',yL [] all (ee! (yM 5 6 d ρ s) (qk ρ' s')) (oq! (iX! (bW! p.1 p.2))) [t,v,f,ln,e! aD,a,b] s=aO! [t,v,f,ln,e! (aD+(oq! (λp=>p.1*p.2)).sum),a',b']
 | [],aD,all,a,b,_=>⟨a,b,by simp[yL,okG]⟩ | p::ps,aD,all,a,b,h=>by
  obtain⟨h1,h2⟩:=h p (by simp);obtain⟨a',b',ih⟩:=zlL (t:=t) (v:=v) (f:=f) (ln:=ln) s hm hk ps (aD+p.1*p.2) all (e! p.1) (e! p.2) λq hq=>h q (by simp[hq]);refine aV! a' b' ?_;rw[_u,yL,_i (by intro p hp;cases hp),z8O,Rb];simp only[_L,_E];rw[(show qk [t,v,f,ln,e! aD,e! p.1,e! p.2] s=aO! [t,v,f,ln,e! (aD+p.1*p.2),e! p.1,e! p.2] from by simp[(z3L s h1 hm h2 hk)])];simp only[_u,_aM];rw[<- Int.add_assoc];exact ih
theorem zhQ(r v:i!):(jE! r v (λp=>p.1*p.2)).sum=eD! r:=by unfold dot;rw[zw]
theorem zm1{s:Sto} : (s++[x]).set cm! y=s++[y]:=by simp
noncomputable abbrev zsu:D->Ev->el! Fl:=ee! (yh 3 d ρ s) ((bh! vn vz wg) ρ' s')
theorem zkt(a3 a4 a5 a6:fD!) (hv:z8m (s++k9!) v=b! (iL vs,[])) (hr:∀x∈r,do! m) (ee:∀x∈vs,do! k) (hm:m<=bH!) (hk:k<=bH!) (ha:jZ!<ft!): ∃b4 b5 b6,zsu (rD r) [b! T,bP!,W!,a3,a4,a5,a6] (s++k9!)=D! [b! T,bP!,W!,b1! r,b4,b5,b6] (s++bF! (acc++[hF! vs])):=by
 obtain⟨a',b',lp⟩:=zlL (t:=b! T) (v:=bP!) (f:=W!) (ln:=b1! r) (m:=m) (k:=k) (s++k9!) hm hk (rE! r vs) 0 (z42 (iL r) (iL vs)) a5 a6 (bq! ⟨hr _ (l6!).1,ee _ (l6!).2⟩);refine⟨e! (hF! vs),a',b',?_⟩;rw[show zsu (rD r) [b! T,bP!,W!,a3,a4,a5,a6] (s++k9!)=zx vn (zx vz wg) [b! T,bP!,W!,b1! r,a4,a5,a6] (s++k9!) from rfl];have f3:vn [b! T,bP!,W!,b1! r,a4,a5,a6] (s++k9!)=D! [b! T,bP!,W!,b1! r,e! 0,a5,a6] (s++k9!):=rfl;rw[zm f3,zm (by
  rw[vz,qE,zgv];simp only[zy,zP,yi,_c,_d,Rb,hv,show z8m (s++k9!) (rD r)=b! (iL r,[]) from rfl,_aK];rw[z99]at lp ⊢;rw[zhQ,_aO]at lp;exact lp),(show wg [b! T,bP!,W!,b1! r,e! (hF! vs),a',b'] (s++k9!)=D! [b! T,bP!,W!,b1! r,e! (hF! vs),a',b'] (s++bF! (acc++[hF! vs])) from by rw[wg,zlC (L:=s.length) (xs:=acc) (x:=hF! vs) (s2:=s++k9!) rfl rfl (by simp) ha,zm1])]
theorem ze3(hv:∀acc,z8m (s++k9!) v=b! (iL vs,[])) (ee:∀x∈vs,do! k) (hm:m<=bH!) (hk:k<=bH!):∀(Rs acc:List (List Int)) (ac:List Int) (all:List D) (a3 a4 a5 a6:Option D),(∀r∈Rs,∀x∈r,do! m)->ac.length+Rs.length<=ft!-> ∃b3 b4 b5 b6,yL [] all zsu (Rs.map rD) [b! T,bP!,W!,a3,a4,a5,a6] (s++bF! ac)=D! [b! T,bP!,W!,b3,b4,b5,b6] (s++bF! (ac++mv Rs vs))
 | [],acc,ac,all,a3,a4,a5,a6,_,_=>⟨a3,a4,a5,a6,by simp[yL,okG,mv]⟩ | r::Rs,acc,ac,all,a3,a4,a5,a6,h,hl=>by
  obtain⟨b4,b5,b6,e⟩:=zkt (T:=T) (v:=v) (r:=r) (vs:=vs) (m:=m) (k:=k) (s:=s) (acc:=ac) a3 a4 a5 a6 (hv ac) (h r (by simp)) ee hm hk (by simp at hl;lia);obtain⟨c3,c4,c5,c6,ih⟩:=ze3 hv ee hm hk Rs acc (ac++[hF! vs]) all (b1! r) b4 b5 b6 (λq hq=>h q (by simp[hq])) (by simp at hl ⊢;lia);refine⟨c3,c4,c5,c6,?_⟩;rw[_u,yL,_i (by intro p hp;cases hp),e,Rb];simp only[mv,_u]at ih ⊢;rw[ih,_b5,List.singleton_append]
theorem zrq(s:Sto) (hv:v=p! (iL vs)\/v=e1! vs) (hA:Bd m A) (ee:∀x∈vs,do! k) (hm:m<=bH!) (hk:k<=bH!) (hl:dv! qU!):vj [tD A,v] s=j! (rD (mv A vs)):=by
 obtain⟨b3,b4,b5,b6,lp⟩:=ze3 (T:=tD A) (λacc=>by rcases hv with rfl | rfl<;>rfl:∀acc,z8m (s++k9!) v=b! (iL vs,[])) ee hm hk A [] [] (A.map rD) none none none none hA (by simp;lia);have f1:z0L [cc! A,bP!,a!,a!,a!,a!,a!] s=D! [cc! A,bP!,W!,a!,a!,a!,a!] (s++bF! []):=by rfl
 have f2:z0J [cc! A,bP!,W!,a!,a!,a!,a!] (s++bF! [])=D! [cc! A,bP!,W!,b3,b4,b5,b6] (s++bF! (mv A vs)):=lp;simp only[vj,z6k,Mof,z1j];rw[show zv ["_law_table_here",kH!,gf!,gg!,pm!,ed!,dV!] [tD A,v]=[cc! A,bP!,a!,a!,a!,a!,a!] from rfl];simp only[_h,_l,_v];rw[zm f1,zm f2,(show qe [cc! A,bP!,W!,b3,b4,b5,b6] (s++bF! (mv A vs))=.ok (.rt (rD (mv A vs))) (s++bF! (mv A vs)) from by
  rw[qe,yf,xi (x:=lI!) u!];simp only[zU,zY,(show E! (s++bF! (mv A vs)) cm! (iL (mv A vs)) from by simp),Rb])];rw[zdS,List.take_left'];rfl
theorem zqz{B:Tb} {f g:FE} (s:Sto) (hd:d=p! (lF! rD)\/d=ad! (lF! rD)) (hb:∀r∈B,aK!=n) (hj:j<n) (hl:dv! B.length) (hf:aM!=j! d) (hm:wZ mp ρ=[e! (h! j),a!]): zt (zT f) mp cj! zX (gq! 1) ρ s=j! (e1! (lF! (λr=>cL! j))):=by rw[comp_map (fi:=zT f) (mp:=mp) (fg:=cj!) (fe:=gq! 1) (ρ:=ρ) (s:=s) rD (λr=>aD! (cL! j)) (λr=>[aH!,b1! r]) B (by rcases hd with rfl | rfl<;>simp[hf]) (λa _=>by rw[hm];rfl) (c9! (by
    have:=z8h (xs:=iL r) (j:=j) (d:=d! (cL! j)) s (by simp[_A,_b (by rw[hb r hr];exact hj),List.getD]);exact this)) (by simp[cap];lia),show iL (lF! (λr=>cL! j))=lF! (λr=>aD! (cL! j)) by rw[iL,_ae];rfl]
theorem zpr(hb:∀r∈B,aK!=n)(hj:j<n)(hB:Bd k B):∀x∈(lF! (λr=>cL! j)),do! k:=ae! (by
 obtain⟨r,hr,rfl⟩:=iZ!;have lO:j<aK!:=by rw[hb r hr];exact hj
 exact hB r hr _ (by rw[_n,_b lO];exact _G lO))
theorem zjJ{dA dB:D} (s:Sto) (o7:dA=tD A) (o8:dB=p! (lF! rD)) (n4:n<=4) (ha:qU!=n) (o9:B.length=n) (hb:∀r∈B,aK!=n) (hA:Bd m A) (hB:Bd k B) (hm:m<=bH!) (hk:k<=bH!): zt (ek! 2) (fm! 0 1) (yh 2) zX (du! vj (kg! (zT n!) (ag! 2) 1 (gq! 1))) (fE! dA dB bv!) s=bt! (bC! ((ye B).map (mv A))):=by
 rw[comp_map (λj:Nat=>aD! j) (λj=>rD (mv A (lF! (λr=>cL! j)))) (λj=>[b! dA,b! dB,aH!]) iV! (jg (by lia) (by rfl)) (λa _=>by rfl) (λj hj=>?_) (by simp[cap];lia)];·rw[ye,o9,_ae,_ae];rfl
 ·have gv:j<n:=by simpa using hj
  rw[call2 (x:=dA) (y:=e1! (lF! (λr=>cL! j))) rfl (zqz (f:=n!) (g:=o!) (mp:=ag! 2) (ρ:=[b! dA,b! dB,aH!]) s (y! o8) hb gv (by lia) rfl rfl),o7];exact zrq s (Q! rfl) hA (zpr hb gv hB) hm hk (by lia)
theorem zj5{S:Tb} {dA dB dS:D} (s:Sto) (pb:dS=ad! (S.map rD)) (n4:n<=4) (lS:q6!=n) (rS:∀r∈S,aK!=n): zt (ek! 2) (ag! 3) cj! zX (eB! cN! b9! 1 (gq! 1)) [b! dA,b! dB,bv!,b! dS] s=bt! (bC! (ye S)):=by
 rw[comp_map (λj:Nat=>aD! j) (λj=>rD (S.map λr=>cL! j)) (λj=>[b! dS,aH!]) iV! (jg (by lia) (by rfl)) (λa _=>by rfl) (λj hj=>?_) (by simp[cap];lia)];·rw[ye,lS,_ae];rfl
 ·rw[xi (zqz (f:=o!) (g:=o!) (mp:=b9!) (ρ:=[b! dS,e! (h! j)]) s (Q! pb) rS (by simpa using hj) (by lia) rfl rfl)];rfl
theorem zpE{n:Nat}{dA dB dS:D} (s:Sto)(g1:yH [dA] s=t! n) (c2:zt (ek! 2) (fm! 0 1) (yh 2) zX (du! vj (kg! (zT n!) (ag! 2) 1 (gq! 1))) (fE! dA dB bv!) s=j! dS) (c3:zt (ek! 2) (ag! 3) cj! zX (eB! cN! b9! 1 (gq! 1)) [b! dA,b! dB,bv!,b! dS] s=j! cq!):wo [dA,dB] s=j! ah!:=by
 have st:zv [ed!,dV!,fR!,qQ!] [dA,dB]=fE! dA dB a!:=rfl;have f3:wP [b! dA,b! dB,bv!,b! dS] s=j! (.rt ah!):=by rw[wP,yf,xi c3];rfl
 simp only[wo,Mof,qH,st,_h,_l,_v];rw[zm (show wQ (fE! dA dB a!) s=aO! (fE! dA dB bv!) from by rw[wQ,zN,xi (x:=dA) u!,g1];rfl),zm (show wS (fE! dA dB bv!) s=aO! [b! dA,b! dB,bv!,b! dS] from by rw[wS,zN,c2];rfl),f3]
theorem zmx(s:Sto)(hn:a9!)(ha:h7!)(hb:eW! B)(hA:Bd m A)(hB:Bd k B)(hm:m<=bH!)(hk:k<=bH!):wo [tD A,tD B] s=gY! (qV A B):=by
 have n4:n<=4:=by lia
 exact zpE s (by simp[yH,zY,ha.len]) (zjJ s rfl rfl n4 ha.len hb.len hb.row hA hB hm hk) (zj5 (S:=(ye B).map (mv A)) s rfl n4 (by simp[ye,hb.len]) (c9! (by
  obtain⟨c,_,rfl⟩:=jI!;simp[mv,ha.len])))
theorem zbl{lt lt':Nat->k5!}(h:∀i j,i<n->j<n->lt i j=lt' i j):∀t:W.KasT α,d3! n t=kev n lt' t
 | .ret a=>rfl | .ask i j k=>by
  unfold kev;split
  ·rename_i aJ;rw[h i j aJ.1 aJ.2];exact zbl h _
  ·rfl
def mt(a b c d e f:Bool):Nat->k5!
 | 0,1=>a | 0,2=>b | 0,3=>c | 1,2=>d | 1,3=>e | 2,3=>f | 1,0=>!a | 2,0=>!b | 3,0=>!c | 2,1=>!d | 3,1=>!e | 3,2=>!f | _,_=>false
noncomputable def trn(n:Nat)(lt:Nat->k5!):Bool:=(iV!).all λi=>(iV!).all λj=>(iV!).all λk=>!(lt i j&&lt j k)||lt i k
noncomputable def gud(n:Nat)(lt:Nat->k5!):Bool:=match d3! n sB! with
 | none=>false | some p=>bw! (qH! iV!)&&bw! (rJ! (di! i j))
theorem zuP:∀a b c d e f:Bool,trn 2 (mt a b c d e f)=c!->gud 2 (mt a b c d e f)=c!:=by decide +kernel
theorem zvq:∀a b c d e f:Bool,trn 3 (mt a b c d e f)=c!->gud 3 (mt a b c d e f)=c!:=by decide +kernel
theorem zuI:∀a b c d e f:Bool,trn 4 (mt a b c d e f)=c!->gud 4 (mt a b c d e f)=c!:=by decide +kernel
theorem z7b{lt lt':Nat->k5!}(h:∀i j,i<n->j<n->lt i j=lt' i j)(g:gud n lt'=c!):∃p,d3! n sB!=b! p/\qH! iV!/\rJ! (di! i j):=by
 unfold gud at g;rw[<- zbl h]at g;cases e:d3! n sB! with
 | none=>rw[e]at g;cases g | some p=>
  rw[e]at g;simp only[_R,_ay]at g;refine mE! p g.1 (List.Pairwise.imp_of_mem (λ{i j} hi hj q=>?_) g.2);rw[h i j (_aN.mp (g.1.mem_iff.mp hi)) (_aN.mp (g.1.mem_iff.mp hj))];exact q
theorem zf8(h2:2<=n)(h4:n<=4)(pc:∀i,lt i i=r!)(aD:∀i j,i<n->j<n->i≠j->lt j i=! lt i j)(tr:∀i j k,di! i j->di! j k->di! i k): ∃p,d3! n sB!=b! p/\qH! iV!/\rJ! (di! i j):=by
 have er:∀i j,i<n->j<n->lt i j=mt (lt 0 1) (lt 0 2) (lt 0 3) (lt 1 2) (lt 1 3) (lt 2 3) i j:=λi j hi hj=>by
  have lP:i=0\/i=1\/i=2\/i=3:=by lia
  by_cases e:i=j
  ·subst e;rw[pc];rcases lP with rfl | rfl | rfl | rfl<;>rfl
  ·have q:=aD j i hj hi (λz=>e js!);rcases lP with rfl | rfl | rfl | rfl<;>rcases (show j=0\/j=1\/j=2\/j=3 from by lia) with rfl | rfl | rfl | rfl<;>first | exact fe! e | rfl | exact q
 have tm:trn n (mt (lt 0 1) (lt 0 2) (lt 0 3) (lt 1 2) (lt 1 3) (lt 2 3))=c!:=by
  simp only[trn,_T,_aN];intro i hi j hj k hk;rw[<- er i j hi hj,<- er j k hj hk,<- er i k hi hk];cases a:lt i j<;>cases b:lt j k<;>simp;exact tr i j k a b
 rcases (show n=2\/n=3\/n=4 from by lia) with rfl | rfl | rfl;·exact z7b er (zuP _ _ _ _ _ _ tm)
 ·exact z7b er (zvq _ _ _ _ _ _ tm)
 ·exact z7b er (zuI _ _ _ _ _ _ tm)
theorem zg6(p:Int×Int):oh! p p=r!:=by simp[Dd.lexLt]
theorem zmS{p q:Int×Int}(h:p≠q):oh! q p=! oh! p q:=by
 obtain⟨a,b⟩:=p;obtain⟨c,d⟩:=q;simp only[Dd.lexLt];by_cases e:a=c
 ·subst e;have:b≠d:=λz=>h (by rw[z]);simp only[_v,this,this.symm,_a1];by_cases l:b<d;·simp[l];lia
  ·simp[l];lia
 ·have e':¬ c=a:=λz=>e js!;simp only[e,e',_a1];by_cases l:a<c;·simp[l];lia
  ·simp[l];lia
theorem zg3: Dd.lexLt p q=c! ↔ p.1<q.1\/(p.1=q.1/\p.2<q.2):=by
 obtain⟨a,b⟩:=p;obtain⟨c,d⟩:=q;simp only[Dd.lexLt];by_cases e:a=c
 ·subst e;by_cases e2:b=d
  ·subst e2;simp
  ·simp[e2]
 ·simp[e]
theorem zpT(h:Dd.lexLt p q=c!)(h':Dd.lexLt q r=c!):Dd.lexLt p r=c!:=by
 rw[zg3]at *;lia
noncomputable abbrev pD(p:Int×Int):D:=p! (bW! p.1 p.2)
theorem z83:∀ps:List (Int×Int),z44 (oq! pD)=b! ps
 | []=>rfl | p::ps=>by simp[z44,z83 ps]
theorem zbo(h2:2<=a5!) (h4:a5!<=4) (nd:ps.Nodup) (s:Sto): ∃qs:List (Int×Int),z35 [ad! (oq! pD)] s=bt! sL!/\qs.Perm ps/\sG! (Dd.lexLt a b=c!):=by
 obtain⟨p,e,pm,pw⟩:=zf8 (n:=ps.length) (lt:=λi j=>Dd.lexLt (gp! (0,0)) (oS! (0,0))) h2 h4 (λi=>zg6 _) (λi j hi hj aJ=>zmS λz=>aJ (by
  rw[_n,_n,_b hi,_b hj]at z;exact (_a0 nd).mp (by simpa using z))) (λi j k a b=>zpT a b);have cv:∀i∈p.toList,i<a5!:=eP! (_aN.mp (pm.mem_iff.mp hi));refine⟨j9! (gp! (0,0)),?_,?_,?_⟩
 ·have em:(j9! ((oq! pD).getD i aJ!))=(j9! (gp! (0,0))).map pD:=by
   rw[_ae];refine _ao (eP! ?_);simp[_n,(cv i hi)]
  simp only[z35,Dd.listOf,z83,_z];rw[cd! h2 (by lia),e];simp only;rw[cd! (by simpa using (show p.toList.all (λi=>bw! (i<q! (oq! pD)))=c! from by
   rw[_T];intro i hi;simpa using cv i hi)) (by rw[pm.length_eq,_c8]),em]
 ·refine a4! (pm.map λi=>gp! (0,0)) ?_;rw[(show aR! a5! (λi=>gp! (0,0))=ps from by
   apply _aL;·simp
   ·intro i h1 h2;simp[_n,h2])]
 ·rw[List.pairwise_map];exact pw
end Pn
namespace Pm
open L2 (maxL minL maxL_ge maxL_mem minL_le minL_mem)
noncomputable abbrev enP(v:i!):gm! Int Nat:=v.zipIdx
noncomputable def zau(v:i!):mU!:=(fO! (enP v) (λp=>ey! 0 p.1)).map λp=>(p.1,h! p.2)
theorem zcN: p∈enP v ↔ E! v p.2 p.1:=List.mem_zipIdx_iff_getElem?
theorem z0Y: a∈zau v ↔ ∃i:Nat,a.2=i/\aj! v a.1/\0<a.1:=by
 unfold zau;simp only[_t,_bp,_ay];constructor
 ·rintro⟨p,⟨hp,h0⟩,rfl⟩;exact mE! p.2 (zcN.mp hp) h0
 ·rintro⟨i,e,g,h0⟩;exact⟨(a.1,i),⟨zcN.mpr g,h0⟩,by rw[<- e]⟩
theorem zgh: ∀{v:List Int}{i:Nat},aj! v x->qV! x<=i
 | [],i,h=>by simp at h | y::v,0,h=>by
  simp only[_c,_y]at h;subst h;simp | y::v,i+1,h=>by
  simp only[_d]at h;have:=zgh h;rw[List.idxOf_cons];cases y==x<;>simp<;>lia
theorem getD_get{v:i!} (h:fo!):aj! v bY!:=by simp[_n,h]
theorem zdG{w:i!}{qs:mU!}(hw:∀x∈w,0<=x)(hn:nz w≠[])(hm:∀a,a∈qs ↔ a∈zau w)(pw:sG! (Dd.lexLt a b=c!)):∃jC,qs=(i4! w,h! (lp w))::jC:=by
 obtain⟨l1,l2,l3⟩:=zcq hn;have cv:(i4! w,h! (lp w))∈zau w:=z0Y.mpr ⟨lp w,rfl,by rw[py! l1,l2],(by
  have:=hw _ (rZ! hn).1;lia)⟩;cases qs with
 | nil=>exact bS! ((hm _).mpr cv) (by simp) | cons a jC=>
  refine as! jC ?_;obtain⟨i,e,g,h0⟩:=z0Y.mp ((hm a).mp jP!);have p6:=minL_le _ (qX! ⟨_w g,by lia⟩);rcases eK! ((hm _).mpr cv) with z | z;·rw[z]
  ·have lx:=Pn.zg3.mp ((List.pairwise_cons.mp pw).1 _ z);simp only at lx;rcases lx with q | ⟨q,q2⟩;·lia
   ·have:w.idxOf a.1<=i:=zgh g;rw[q]at this;have e2:lp w=w.idxOf (i4! w):=rfl;lia
theorem z7i{n:Nat}{v:i!}(h:a2!)(a:Int×Int):a∈zau cX! ↔ a∈zau v/\a.2≠h! a8!:=by
 have ne:=h.ne;rw[z0Y,z0Y];constructor
 ·rintro⟨i,e,g,h0⟩;have hi:i<q! cX!:=(cM! g);rw[py! hi,_y,(vZ ne i)]at g;split at g;·lia
  ·rw[wq ne]at hi;exact⟨⟨i,e,by rw[py! hi,g],h0⟩,by lia⟩
 ·rintro⟨⟨i,e,g,h0⟩,hg⟩;have hi:fo!:=cM! g;rw[py! hi]at g;refine ck! i e ?_ h0;rw[py! (by rw[wq ne];exact hi),vZ ne i,_q (by lia),g]
theorem z6D(h:a2!):∀x∈cX!,0<=x:=ae! (by
 rw[others_eq eR!]at hx;rcases _B hx with q | q;·exact h.nn x q
 ·lia)
theorem zn2{qs:mU!}(hw:∀x∈w,0<=x)(hn:nz w≠[])(hm:∀a,a∈qs ↔ a∈zau w):a3! ss!/\jY! ss!=jY! w/\0<jY! w:=by
 obtain⟨y,hy⟩:=List.exists_mem_of_ne_nil _ hn;obtain⟨y1,y2⟩:=uM.mp hy;have p0:0<jY! w:=by
  have:=hw y y1;have:=maxL_ge (xs:=w) y y1;lia
 obtain⟨i1,i2⟩:=zaV (kE! (λz=>hn (by rw[z];rfl):a3! w));have fP:jY! w∈ss!:=_t.mpr (b5! ((hm _).mpr (z0Y.mpr (mE! _ (by rw[py! i1,i2]) p0)):(jY! w,h! (w.idxOf (jY! w)))∈qs));have ne:a3! ss!:=List.ne_nil_of_mem fP;refine aV! ne ?_ p0;have h1:=ob! _ fP;obtain⟨a,ha,e⟩:=_t.mp (kE! ne);obtain⟨i,_,g,_⟩:=z0Y.mp ((hm a).mp ha);have h3:=maxL_ge (xs:=w) a.1 (_w g);lia
theorem zec{w:i!} (hk:k∈w) (p:k5!) (hp:∀i,i<w.length->p i=bw! (w.getD i 0=k)):∃jC,fO! sl! p=w.idxOf k::jC:=by
 obtain⟨i1,i2⟩:=zaV hk;have hd:=List.head?_filter (p:=p) (l:=sl!);rw[(show (sl!).find? p=b! (w.idxOf k) from by
  rw[List.find?_range_eq_some];refine⟨by rw[hp _ i1,i2];simp,by simpa using i1,λj hj=>?_⟩;rw[hp j (by lia)];simp only[Bool.not_eq_true',decide_eq_false_iff_not];intro z;have:=zgh (v:=w) (i:=j) (x:=k) (by rw[py! (by lia),z]);lia)]at hd;cases e:fO! sl! p with
 | nil=>rw[e]at hd;simp at hd | cons a jC=>
  rw[e]at hd;simp only[List.head?_cons,_y]at hd;exact⟨jC,by rw[hd]⟩
noncomputable def zfY(v:i!)(z:Int)(ps:jJ!)(xs:i!):i!:=ps.foldl (λxs p=>iE! p (bs! p / z)) xs
theorem zdW(v:i!)(z:Int):∀(ps:List Nat)(xs:List Int),q! (zfY v z ps xs)=x!
 | [],xs=>rfl | p::ps,xs=>by simpa[zfY] using (zdW v z ps (iE! p (bs! p / z)))
theorem zdV(v:i!)(z:Int):∀(ps:List Nat)(xs:List Int)(i:Nat),i<x!->bj! (zfY v z ps xs) i=am! (i∈ps) (bY! / z) (xs.getD i 0)
 | [],xs,i,_=>by simp[zfY] | p::ps,xs,i,hi=>by
  have e:zfY v z (p::ps) xs=zfY v z ps (iE! p (bs! p / z)):=rfl;rw[e,(zdV v z ps (iE! p (bs! p / z)) i (by simpa using hi))];by_cases q:i∈ps;·simp[q]
  ·by_cases q2:i=p
   ·subst q2;simp[q,hi,_n]
   ·have q3:¬ p=i:=λz=>q2 js!;simp[q,q2,_n,q3]
theorem z16(v:i!)(b:Nat)(ps:jJ!):zfY v fJ! ps (lK! 0)=yN v (b,ps):=by
 apply _aL;·rw[zdW,xa];simp
 ·intro i h1 h2;have hi:fo!:=by rw[xa]at h2;exact h2
  have:=zdV v fJ! ps (lK! 0) i (by simpa using hi);rw[_n,_b h1,_aD]at this;rw[this];simp[yN,hi]
theorem zgc(v:i!)(b:Nat):yN v (b,[])=lK! 0:=by
 apply _aL;·rw[xa];simp
 ·simp[yN]
end Pm
namespace Pg
open L2 Dd Pm
section
variable {r F G:Int}{s:Sto}{l:Nat}
theorem z2e{fa fb fc:FE}{ρ:Ev}{s s1 s2:Sto}{L:Nat}{xs:v!}{i:Int}{d:D}(hc:fc ρ s=M! d)(ha:gA! s1=M! (.loc L))(hb:f4!=bD! aa!)(at_:E! s2 L xs)(h0:0<=i)(h1:i<x!)(hd:mJ!):z0D fa fb fc ρ s=D! ρ (oa! L (iE! jq! d)):=by
 have e:kQ! i=b! jq!:=by
  unfold ixN;rw[_i h0,_i (by lia)]
 rw[zcP,hc,Rb,ha,Rb,hb,Rb];simp only[at_,e,hd,_v]
end
end Pg
namespace Po
open L2 Dd Pm Pg Pn
theorem zaj:∀(v:List Int)(k:Nat),z1Y k ca!=(v.zipIdx k).map (iX! (bW! (Z! p.2) p.1))
 | [],k=>rfl | x::v,k=>by simp[z1Y,zaj v (k+1)]
theorem z94{v:i!}{f:FE}{ρ:Ev}{s:Sto}(hf:aM!=j! az!):z20 (bI! f) ρ s=j! ((enP v).map (iX! (bW! (Z! p.2) p.1)),[]):=by simp only[z20,zy,hf,Rb,zP,z8m,zaj]
theorem zjk(h:∀x∈v,0<=x):q! (zau v)=ho! v:=by
 simpa[zau] using (show ∀(v:List Int)(k:Nat),(∀x∈v,0<=x)->q! (fO! (v.zipIdx k) (λp=>ey! 0 p.1))=ho! v from by
  intro v;induction v with
  | nil=>intro k _;rfl | cons x v ih=>
   intro k hx;have h0:=hx x jP!;have ih:=ih (k+1) (cW! (hx y (.tail _ hy)));rw[_bH];by_cases q:x=0
   ·subst q;simpa[nz,_aE] using ih
   ·simp only[nz,_aE,(show 0<x from by lia),q,_dd,ne_eq,not_false_eq_true,_v,_h];simpa[nz] using ih) v 0 h
theorem zmT(v:i!):(zau v).Nodup:=by
 refine _df _ (λa b lL z=>lL ?_) (fO! (List.Pairwise.of_map (S:=λa b:Nat=>a≠b) Prod.snd (λa b h z=>h (by rw[z])) (by rw[List.zipIdx_map_snd];exact List.nodup_range'):(enP v).Nodup) _);simp only[_br]at z;exact Prod.ext z.1 (by lia)
theorem zkz(h:a2!)(he:en!):2<=q! (zau v)/\q! (zau v)<=4:=by
 have l4:=h.le4;rw[zjk fT!];have h1:ho! v≠1:=by simpa[ended] using he
 have h2:ho! v≠0:=λz=>h.nzne (_aX.mp z);have h3:ho! v<=I!:=List.length_filter_le _ _;lia
theorem zj0(h:a2!) (he:en!) (ρ:Ev) (s:Sto) (h1:E! ρ 1 ak!): ∃qs:List (Int×Int),uU ρ s=aO! (ρ.set 3 d0!)/\(∀a,a∈qs ↔ a∈zau v)/\sG! (Dd.lexLt a b=c!):=by
 have l2:=zkz h he;obtain⟨qs,e,pm,pw⟩:=zbo l2.1 l2.2 (zmT v) s;refine⟨qs,?_,λa=>pm.mem_iff,pw⟩;have l4:=h.le4;have c:=xX (s:=s) (mp:=i9!) (fg:=yM 0 1) (ft:=gP! dGt n! C!) (fe:=cF! n! o!) (λp:Int×Nat=>gJ! (bW! p.2 p.1)) (λp=>pD (p.1,p.2)) (λp=>ey! 0 p.1) (λp=>[e! p.2,e! p.1]) (enP v) (z94 (vr h1)) (λp _=>by rfl) (λp _=>by rfl) (λp _ _=>by rfl) (by simp[enP,cap];lia);have em:List.map (λp:Int×Nat=>pD (p.1,p.2)) (fO! (enP v) (λp=>ey! 0 p.1))=(zau v).map pD:=by simp[zau,_Q]
 rw[em]at c;rw[uU,zN,xi c,e];rfl
theorem z6Y{v:i!}{k:Nat}{jC:jJ!}{f:FE}{ρ:Ev}{s:Sto}(hf:aM!=bt! (nL (k::jC))):eOp dIx f C! ρ s=t! k:=by
 rw[yy,hf,Rb];exact wV (_c4 _) rfl
noncomputable abbrev EV(a0 a1 a2 a3 a4 a5 a6 a7 a8 a9 a10 a11 a12:fD!):Ev:=[a0,a1,a2,a3,a4,a5,a6,a7,a8,a9,a10,a11,a12]
structure LD(d:D)(v:i!):g! where
 eq:d=az!
 ix:∀(s:Sto)(i:Nat),fo!->c1! d i s=t! bY!
 mx:∀s:Sto,vy [d] s=t! i5!
 len:∀s:Sto,yH [d] s=t! I!
theorem LD.of(h:a2!):LD az! v:=⟨rfl,λs i hi=>qM s hi,λs=>z8k s eR!,λs=>by simp[yH,zY]⟩
section
variable {n:Nat}{v:i!}{d e:D}(h:a2!)(D:LD d v)(he:en!){a0 a1 a2 a3 a4 a5 a6 a7 a8 a9 a10 a11 a12:r2!}(s:Sto)
include h D
theorem zuN:jV (EV a0 k! a2 a3 a4 a5 a6 a7 a8 a9 a10 a11 a12) s=aO! (EV a0 k! bA! a3 a4 a5 a6 a7 a8 a9 a10 a11 a12):=by
 rw[jV,zN,xi (x:=d) u!,D.len];rfl
theorem zv4:jY (EV a0 k! bA! a3 a4 a5 a6 a7 a8 a9 a10 a11 a12) s=aO! (EV a0 k! bA! a3 dr! a5 a6 a7 a8 a9 a10 a11 a12):=by
 have l4:=h.le4;obtain⟨jC,e⟩:=zec (w:=v) (kE! eR!) (λi=>ki! bY! i5!) (λi _=>rfl);have c:=xX (s:=s) (mp:=b9!) (fg:=cj!) (ft:=fa! (ax! 0 1) (a6! vy)) (fe:=n!) (λi:Nat=>j3! i) (λi:Nat=>j3! i) (λi=>ki! bY! i5!) (λi=>[k!,ch!]) pI! (jg (n:=v.length) (ρ:=EV a0 k! bA! a3 a4 a5 a6 a7 a8 a9 a10 a11 a12) (ar:=cw! 2) (by lia) (by rfl)) (λi _=>by rfl) (eP! (by simp only[wT,yy,yi,yg,zy,zP,_c,_d,Rb,(D.ix s i (by simpa using hi)),(D.mx s),zaR])) (λi _ _=>by rfl) (by simp[cap];lia);rw[e]at c;rw[jY,zN,z6Y (v:=v) c];rfl
end
def zkI(v:i!):Rl->D
 | .al=>d! dn! | .tu=>c4! | _=>aJ!
theorem zty(r:Rl)(s:Sto):dEq bE! kY! s=fB! (r=.le):=by
 rw[Pg.eq_str (zhq r) (by decide +kernel)];congr 2;cases r<;>decide +kernel
theorem zre(r:Rl)(s:Sto):dEq bE! jN! s=fB! (r=.nx):=by
 rw[Pg.eq_str (zhq r) (by decide +kernel)];congr 2;cases r<;>decide +kernel
structure RD(e:D)(r:Rl):g! where
 eq:e=bE!
 le:∀s:Sto,dEq e kY! s=fB! (r=.le)
 nx:∀s:Sto,dEq e jN! s=fB! (r=.nx)
 tu:∀s:Sto,dEq e (aI! gb!) s=fB! (r=.tu)
 in_:∀s:Sto,za6 r! e (p! [jN!,kY!]) s=fB! (r=.nx\/r=.le)
theorem RD.of(r:Rl):RD bE! r:=⟨rfl,zty r,zre r,zhD r,λs=>by cases r<;>rfl⟩
section
variable {n:Nat}{v:i!}{d e:D}(h:a2!){a0 a1 a2 a3 a4 a5 a6 a7 a8 a9 a10 a11 a12:r2!}(s:Sto){qs:mU!}
theorem zv3{r:Rl} {m:Int} {jC:mU!} (E:RD e r) (hq:qs=(m,h! dn!)::jC):jL (EV z! a1 a2 d0! a4 a5 a6 a7 a8 a9 a10 a11 a12) s=aO! (EV z! a1 a2 d0! a4 (b! (zkI v r)) a6 a7 a8 a9 a10 a11 a12):=by
 have i1:c1! (ad! sL!) 0 s=j! (pD (m,dn!)):=by
  rw[hq];exact wV (_c4 _) rfl
 have i2:c1! (pD (m,dn!)) 1 s=t! dn!:=qM (r:=[m,dn!]) (j:=1) s (by simp);have hg:(am! (nmR r=jh!) (aD! dn!) (am! (nmR r=gb!) c4! aJ!))=zkI v r:=by
  cases r;·rfl
  ·rfl
  ·rfl
  ·rfl
 rw[jL,zN,(show zfN jh! gb! (df! (gX! 3) ao!) C! o! (EV z! a1 a2 d0! a4 a5 a6 a7 a8 a9 a10 a11 a12) s=j! (zkI v r) from by
  unfold zfN;rw[yy,yy,vr (d:=ad! sL!) rfl,Rb,z0Z,Rb,i1,Rb,z0Z,Rb,i2,Rb,z0Z,Rb,vr (d:=e) rfl,Rb,E.eq];simp only;rw[hg])];rfl
theorem zfU(g:Int×Int->D)(fe:FE)(pd:∀a:Int×Int,fe [dr!,e! a.1,e! a.2] s=j! (g a))(hl:j1!<=4): zt (zT ba!) (dI! 4) (yM 1 2) (eg! 2 o!) fe (EV a0 a1 a2 d0! dr! a5 a6 a7 a8 a9 a10 a11 a12) s = bt! ((rr! (cK! a.2 (h! a8!))).map g):= xX (s:=s) pD g (λa=>cK! a.2 a8!) (λa=>[dr!,e! a.1,e! a.2]) qs (qN u!) (λa _=>by rfl) (λa _=>by simp) (λa _ _=>pd a) (by simp[cap];lia)
variable (he:en!)(hm:∀a,a∈qs ↔ a∈zau v)(pw:sG! (Dd.lexLt a b=c!))(hl:j1!<=4)
include h he hm pw
theorem ziB:∃jC,(rr! (cK! a.2 (h! a8!)))=(i4! cX!,Z! (lp cX!))::jC:= zdG (z6D h) (jE h he) (λa=>by rw[z7i h,<- hm];simp) (pw.filter _)
theorem znD:(rr! (cK! a.2 (h! a8!))).map se!≠[]/\jY! ((rr! (cK! a.2 (h! a8!))).map se!)=hk!/\0<hk!:= zn2 (z6D h) (jE h he) (λa=>by rw[z7i h,<- hm];simp)
include hl
theorem zvb:kE (EV a0 a1 a2 d0! dr! a5 a6 a7 a8 a9 a10 a11 a12) s=aO! (EV a0 a1 a2 d0! dr! (e! (Z! (lp cX!))) a6 a7 a8 a9 a10 a11 a12):=by
 obtain⟨jC,e⟩:=ziB h he hm pw;have c:=zfU (v:=v) (a0:=a0) (a1:=a1) (a2:=a2) (a5:=a5) (a6:=a6) (a7:=a7) (a8:=a8) (a9:=a9) (a10:=a10) (a11:=a11) (a12:=a12) s (λa=>d! a.2) H! (λa=>u!) hl;rw[e]at c;rw[kE,zN,yy,c,Rb,z0Z,Rb,wV (d:=d! (lp cX!)) (_c4 _) rfl];rfl
theorem zvl:jU (EV a0 a1 a2 d0! dr! a5 a6 a7 a8 a9 a10 a11 a12) s=aO! (EV a0 a1 a2 d0! dr! a5 (e! hk!) a7 a8 a9 a10 a11 a12):=by
 obtain⟨ne,e,_⟩:=znD h he hm pw;have c:=zfU (v:=v) (a0:=a0) (a1:=a1) (a2:=a2) (a5:=a5) (a6:=a6) (a7:=a7) (a8:=a8) (a9:=a9) (a10:=a10) (a11:=a11) (a12:=a12) s (λa=>d! a.1) n! (λa=>u!) hl;rw[(show ((rr! (cK! a.2 (h! a8!))).map λa=>aD! a.1)=iL ((rr! (cK! a.2 (h! a8!))).map se!) from by simp[_Q])]at c;rw[jU,zN,xi c,zoK s ne,e];rfl
omit pw hl hm
theorem zuD(D:LD d v):jZ (EV a0 k! bA! a3 dr! a5 (e! hk!) a7 a8 a9 a10 a11 a12) s = aO! (EV a0 k! bA! a3 dr! (e! (Z! ((cX!).idxOf hk!))) (e! hk!) a7 a8 a9 a10 a11 a12):=by
 have l4:=h.le4;have ol:=wq eR!;have pos:0<hk!:=by
  obtain⟨y,hy⟩:=List.exists_mem_of_ne_nil _ (jE h he);obtain⟨y1,y2⟩:=uM.mp hy;have:=z6D h y y1;have:=maxL_ge (xs:=cX!) y y1;lia
 obtain⟨jC,e⟩:=zec (w:=cX!) (kE! (λz=>by rw[z]at ol;simp at ol;lia)) (λi=>ki! bY! hk!&&cK! i a8!) (λi _=>by
  rw[vZ eR!];by_cases q:i=a8!
  ·simp only[q,_v,ne_eq,not_true_eq_false,_cC,Bool.and_false];symm;simp;lia
  ·simp[q]);rw[ol]at e;have c:=xX (s:=s) (mp:=hy! 6 4 1) (fg:=yh 3) (ft:=zkV (fa! (ax! 2 3) o!) (eg! 3 n!)) (fe:=ba!) (λi:Nat=>j3! (i:Nat)) (λi:Nat=>j3! (i:Nat)) (λi=>ki! bY! hk!&&cK! i a8!) (λi=>[e! hk!,e! (h! a8!),k!,e4! i]) pI! (jg (n:=v.length) (ρ:=EV a0 k! (e4! I!) a3 (e! (h! a8!)) a5 (e! hk!) a7 a8 a9 a10 a11 a12) (ar:=cw! 2) (by lia) (by rfl)) (λi _=>by rfl) (eP! (by
   have e1:=D.ix s i (by simpa using hi);have e3:bw! (dX! i≠h! a8!)=cK! i a8!:=by
    by_cases q:i=a8!;·simp[q]
    ·simp[q,(show ¬ h! i=h! a8! from by lia)]
   simp only[zi1,wT,yy,yi,_c,_d,Rb,e1,zaR,zcm,e3];cases ki! bY! hk!<;>rfl)) (λi _ _=>by rfl) (by simp[cap];lia);rw[e]at c;rw[jZ,zN,z6Y (v:=v) c];rfl
omit he
theorem zss(b:Nat):ue (EV a0 a1 bA! a3 a4 a7! a6 a7 a8 a9 a10 a11 a12) s=aO! (EV a0 a1 bA! a3 a4 a7! a6 (L! (nL (wC v b))) a8 a9 a10 a11 a12):=by
 have l4:=h.le4;rw[ue,zN,(xX (s:=s) (mp:=ag! 5) (fg:=cj!) (ft:=eg! 1 o!) (fe:=n!) (λi:Nat=>j3! (i:Nat)) (λi:Nat=>j3! (i:Nat)) (λi=>cK! i b) (λi=>[e4! b,e4! i]) pI! (jg (n:=v.length) (ρ:=EV a0 a1 (e! (h! I!)) a3 a4 (e4! b) a6 a7 a8 a9 a10 a11 a12) (ar:=cw! 2) (by lia) (by rfl)) (λi _=>by rfl) (eP! (by
   have e3:bw! (dX! i≠h! b)=cK! i b:=by
    by_cases q:i=b;·simp[q]
    ·simp[q,(show ¬ h! i=h! b from by lia)]
   simp only[wT,yy,yi,_c,_d,Rb,zcm,e3])) (λi _ _=>by rfl) (by simp[cap];lia))];rfl
end
theorem zk6(n:Nat):hO! n [aD! 0]=iL (mg! n 0):=by induction n with
 | zero=>rfl | succ n ih=>simp[_aR,ih]
theorem zmE(ha:gA! s=j! (.loc L))(hb:fb ρ s=bD! x)(at_:E! s2 L xs)(hl:x!<ft!)(hx:x.flat=c!):we (zcA fa fb) ρ s=D! ρ (oa! L (xs++[x])):=by
 rw[z0M,z8G,ha,Rb];simp only;rw[hb,Rb];simp only[at_];rw[cd! hx (by simp[cap];lia)];rfl
theorem zeN(h:t ρ s=j! c!):fIf t f g ρ s=aM!:=by rw[ke,h,Rb,gU!]
section
variable {n m:Nat}{v:i!}{d e:D}(h:e5!)(D:LD d v)(hm:m<=hN!){a0 a1 a2 a3 a4 a5 a6 a7 a8 a9 a10 a11 a12:r2!}(s:Sto){b:Nat}(hb:b<I!)
include h hm in
theorem zkE{i:Nat}(hi:fo!):0<=bY!/\bY!<2 ^ bH!:=by
 refine⟨h.nn _ (q2! hi),_cS (h.bd _ (q2! hi)) ?_⟩;have:dX! 2 ^ m<=2 ^ bH!:=_C (by decide) (by lia);have:=Int.ofNat_le.mpr iP!;simpa using this
include h in
theorem zsY:xS (EV a0 a1 bA! a3 a4 a5 a6 a7 a8 a9 a10 a11 a12) s=D! (EV a0 a1 bA! a3 a4 a5 a6 a7 (es! (q! (s++[[kR!]]))) a9 a10 a11 a12) ((s++[[kR!]])++bF! (lK! 0)):=by
 have l4:=h.toLot.le4;have e0:z9W (bI! C!) (EV a0 a1 bA! a3 a4 a5 a6 a7 a8 a9 a10 a11 a12) s=gs! (s++[[kR!]]):=by
  simp only[z77,zy,zP,z0Z,Rb];rw[cd! (by simp[cap]) (yI [0])]
 have e1:zet lI! (d! I!) (s++[[kR!]])=.ok (.loc (q! (s++[[kR!]]))) ((s++[[kR!]])++bF! (lK! 0)):=by
  have lo:Dd.listOf (s++[[kR!]]) lI!=b! [kR!]:=by simp[Dd.listOf]
  simp only[zet,lo,_V,zk6];rw[_i ⟨by simp[cap];lia,by lia,by lia,yI _⟩]
 rw[xS,zN,yy,e0,Rb,vr (d:=d! I!) rfl,Rb,e1];rfl
include h D hm hb
theorem zn6{S0:Sto} {all:d9! Dd.D}:∀(ps:List Nat) (xs:List Int) (p9:Option Dd.D),(∀i∈ps,fo!)->x!=I!-> ∃dQ,yL [] all (ee! (yh 9 d ρ s) (xO ρ' s')) (nL ps) (EV a0 k! a2 a3 a4 a7! a6 a7 pQ! p9 a10 a11 a12) (S0++bF! xs) = D! (EV a0 k! a2 a3 a4 a7! a6 a7 pQ! dQ a10 a11 a12) (S0++bF! (am! (0<fJ!) (zfY v fJ! ps xs) xs))
 | [],xs,p9,_,_=>⟨p9,by simp[yL,okG,zfY]⟩ | i::ps,xs,p9,hi,hl=>by
  have i0:=hi i jP!;have B:=zkE h hm hb;have gw:=D.ix (S0++bF! xs) b hb;have pf:=D.ix (S0++bF! xs) i i0;have c7:tOf (eOp dGt (ax! 1 5) C!) (EV a0 k! a2 a3 a4 a7! a6 a7 pQ! ch! a10 a11 a12) (S0++bF! xs)=.ok (ey! 0 fJ!) (S0++bF! xs):=by simp only[wT,yy,yi,z0Z,_c,_d,Rb,gw,zrJ]
  by_cases q:0<fJ!
  ·obtain⟨dQ,ih⟩:=zn6 (S0:=S0) (all:=all) ps (iE! i (bY! / fJ!)) ch! (λj hj=>hi j (.tail _ hj)) (by simpa using hl);refine as! dQ ?_;have body:xO (EV a0 k! a2 a3 a4 a7! a6 a7 pQ! ch! a10 a11 a12) (S0++bF! xs)=D! (EV a0 k! a2 a3 a4 a7! a6 a7 pQ! ch! a10 a11 a12) (S0++bF! (iE! i (bY! / fJ!))):=by
    rw[xO,zeN (by rw[c7];simp only[q,_dd]),z1w];rw[z5F (s1:=S0++bF! xs) (s2:=S0++bF! xs) (L:=S0.length) (xs:=xs) (i:=h! i) (x:=bY! / fJ!) (by
     rw[yy,op2 (x:=d) (y:=aa!) u! u!,pf,Rb,op2 (x:=d) (y:=e0!) u! u!,gw];exact zgK _ q B.2) u! u! (by simp) (by lia) (by lia)];simp
   rw[show nL (i::ps)=j3! i::nL ps from rfl,yL,_i (by intro p hp;cases hp),va,Rb];simp only[_L,_E];rw[body,Rb];simp only;rw[ih];simp only[q,_v];rfl
  ·obtain⟨dQ,ih⟩:=zn6 (S0:=S0) (all:=all) ps xs ch! (λj hj=>hi j (.tail _ hj)) hl;refine as! dQ ?_;rw[show nL (i::ps)=j3! i::nL ps from rfl,yL,_i (by intro p hp;cases hp),va,Rb];simp only[_L,_E];rw[(show xO (EV a0 k! a2 a3 a4 a7! a6 a7 pQ! ch! a10 a11 a12) (S0++bF! xs)=D! (EV a0 k! a2 a3 a4 a7! a6 a7 pQ! ch! a10 a11 a12) (S0++bF! xs) from by
    rw[xO,zil (by rw[c7];simp only[q,_cC])];rfl),Rb];simp only;rw[ih];simp only[q,_a1]
omit h D hm
theorem zgq(Q:i!)(hQ:pz!=I!)(z:Int):((enP v).map λp:Int×Nat=>j3! (p.1-i2! p.2*z))=iL (kJ! (λx q=>x-q*z) v Q):=by
 apply _aL;·simp[enP,hQ]
 ·intro i h1 h2;simp[enP,_n,hQ,(by simpa[enP] using h1)]
include h D hm
theorem ztc{Q:i!} {L:Nat} (hs:E! s L (iL Q)) (hQ:pz!=I!) (hq:∀q∈Q,0<=q/\q<2 ^ m): xP (EV a0 k! a2 a3 a4 a7! a6 a7 (es! L) a9 a10 a11 a12) s=aO! (EV a0 k! a2 a3 a4 a7! a6 a7 (es! L) a9 (L! (iL (cC! Q b))) a11 a12):=by
 have l4:=h.toLot.le4;have B:=zkE h hm hb;have gw:=D.ix s b hb;have c:=comp_map (s:=s) (mp:=[b! 8,b! 1,b! 5,a!,a!]) (fg:=yM 3 4) (fe:=kt! 4 (jf! (ax! 0 3) (ax! 1 2))) (λp:Int×Nat=>Dd.D.tup (bW! p.2 p.1)) (λp=>j3! (p.1-i2! p.2*fJ!)) (λp=>[es! L,k!,a7!,e! p.2,e! p.1]) (enP v) (z94 (f:=n!) (ρ:=EV a0 k! a2 a3 a4 a7! a6 a7 (es! L) a9 a10 a11 a12) (by rw[<- D.eq];exact u!)) (λp _=>by rfl) (bq! (by
   have hi:p.2<pz!:=by rw[hQ];exact cM! (zcN.mp hp)
   have e1:=zal (s:=s) (l:=L) (i:=p.2) (d:=d! (i2! p.2)) hs (by lia) (by simp[_n,hi]);have q1:=hq _ (q2! hi);rw[yy,vr (d:=d! p.1) rfl,Rb,yy,op2 (x:=.loc L) (y:=d! (p.2:Nat)) u! u!,e1,Rb,op2 (x:=d) (y:=d! (b:Nat)) u! u!,gw,Rb,z0O s q1.1 (_cS q1.2 (by
    have:2 ^ m<=2 ^ bH!:=_C (by decide) (by lia);simpa using (Int.ofNat_le.mpr iP!))) B.1 B.2];rfl)) (by simp[enP,cap];lia);rw[zgq hb Q hQ]at c;rw[xP,zN,c];rfl
end
theorem z78{α:bL!} (g f:α->D)(ev:α->Ev)(l:ex!) (hi:fi ρ s=j! (mO!,[]))(hg:∀a∈l,fg (g a) (wZ mp ρ) s=j! (ev a))(he:∀a∈l,fe (ev a) s=j! (f a))(hl:j0!<=cap)(hf:da! mN!): z1f fi mp fg zX fe ρ s=gs! (s++[mN!]):=by
 rw[zdi,uJ,hi,Rb,z2k g f (bf! c!) l [] (by
  intro a ha;simp only[hg a ha,Rb];simp[he a ha]) (by simpa using hl),(_bO.mpr (by simp))];simp only[_av,Rb];rw[_i hf]
theorem zdb(xs:v!)(k:Nat):cutD xs a! (b! (h! k))=m7! k:=by simpa[dSl] using (z32 xs k [])
theorem z5s(xs:v!)(k:Nat):cutD xs (b! (h! k)) a!=lk! k:=by simpa[dSl] using (z1O xs k [])
theorem zax(hb:b<line.length)(q:Int):uF b line q=line.set b (line.getD b 0+q):=by
 unfold uF;rw[_b0,_i hb];simp
noncomputable def xp(n i:Nat):i!:=aR! n (λc=>ai! i c 1 0)
theorem zle(hx:E! ρ k dJ!)(hl:Dd.listOf s x=b! xs)(h:x=cq!\/∃l,x=dK!)(hc:x!<=4):eOp yW (e2! (zd k) ao!) (gu! (zd k) ao!) ρ s=bt! (rot xs):=by
 rw[yy,zbB,vr hx,Rb,z1J,z0Z];simp only[Rb,jF];rw[(show dSl x (b! 1) a! s=bt! (lk! 1) from by
  rcases h with rfl | ⟨l,rfl⟩;·exact _at (λz=>ep! (D.lst z) s) (z5s xs 1)
  ·simp only[dSl,hl];exact _at (λz=>ep! (D.lst z) s) (z5s xs 1)),Rb,zbB,vr hx];simp only[Rb,jF,z1J,z0Z];rw[(show dSl x a! (b! 1) s=bt! (m7! 1) from by
  rcases h with rfl | ⟨l,rfl⟩;·exact _at (λz=>ep! (D.lst z) s) (zdb xs 1)
  ·simp only[dSl,hl];exact _at (λz=>ep! (D.lst z) s) (zdb xs 1)),Rb,zdB,_i (by simp[cap];lia)];rfl
section
variable {n m:Nat}{v:i!}{d e:D}{r:Rl}(h:e5!)(E:RD e r){a0 a1 a2 a3 a4 a5 a6 a7 a8 a9 a10 a11 a12:r2!}{b:Nat}(hb:b<I!){Q:i!}(hQ:pz!=I!)
include h E hb hQ
theorem zsC{S:Sto} {L i:Nat} (hL:E! S L (iL Q)) (hi:fo!) (A:v!) (hA:qU!<ft!) (J:Sto) (c8:fD!): ∃J' dR,(zx wE (bh! wL wH wM)) (EV z! a1 bA! a3 a4 a7! a6 a7 (es! L) ch! a10 jB! c8) (S++A::J) = D! (EV z! a1 bA! a3 a4 a7! a6 a7 (es! L) ch! a10 jB! dR) (S++(A++[rD (g3! (uF b fH! (i2! i)))])::J'):=by
 have l4:=h.toLot.le4;have ln:q! fH!=I!:=by simp[xp]
 have em:(aR! I! (λc:Nat=>aD! (ai! i c 1 0)))=iL fH!:=by simp[xp,_Q]
 have c:=z78 (s:=S++A::J) (mp:=ag! 9) (fg:=cj!) (fe:=a0! zdd (et! dEq 0 n!)) (λc:Nat=>aD! (Z! c)) (λc:Nat=>aD! (ai! i c 1 0)) (λc=>[ch!,e! (Z! c)]) pI! (jg (n:=v.length) (ρ:=EV z! a1 bA! a3 a4 a7! a6 a7 (es! L) ch! a10 jB! c8) (ar:=cw! 2) (by lia) (by rfl)) (λc _=>by rfl) (λc _=>by
   by_cases q:i=c;·simp[zdd,q]
   ·have:¬ h! i=h! c:=by lia
    simp[zdd,q,this]) (by simp[cap];lia) (by rw[em];exact yI _);rw[em]at c;have gx:wE (EV z! a1 bA! a3 a4 a7! a6 a7 (es! L) ch! a10 jB! c8) (S++A::J) = D! (EV z! a1 bA! a3 a4 a7! a6 a7 (es! L) ch! a10 jB! (es! (q! (S++A::J)))) ((S++A::J)++bF! fH!):=by
  rw[wE,zN,c];rfl
 have aT:E! ((S++A::J)++bF! fH!) (q! (S++A::J)) (iL fH!):=by simp
 have aL:E! ((S++A::J)++bF! fH!) L (iL Q):=by rw[_b5,_I (cM! hL),hL]
 have i1:=zal (i:=h! b) (d:=d! (bj! fH! b)) aT (by lia) (by simp[_n,ln,hb]);have i2:=zal (i:=h! i) (d:=d! (i2! i)) aL (by lia) (by simp[_n,hQ,hi]);have iJ:((S++A::J)++bF! fH!).set (q! (S++A::J)) (iL ((fH!).set (h! b).toNat (bj! fH! b+i2! i)))=(S++A::J)++bF! (uF b fH! (i2! i)):=by
  rw[zax (by rw[ln];exact hb)];simp
 have lQ:wL (EV z! a1 bA! a3 a4 a7! a6 a7 (es! L) ch! a10 jB! (es! (q! (S++A::J)))) ((S++A::J)++bF! fH!) = D! (EV z! a1 bA! a3 a4 a7! a6 a7 (es! L) ch! a10 jB! (es! (q! (S++A::J)))) ((S++A::J)++bF! (uF b fH! (i2! i))):=by rw[wL,z5F (s1:=(S++A::J)++bF! fH!) (s2:=(S++A::J)++bF! fH!) (L:=q! (S++A::J)) (xs:=fH!) (i:=h! b) (x:=bj! fH! b+i2! i) (by
   rw[yy,op2 (x:=.loc (q! (S++A::J))) (y:=e0!) u! u!,i1,Rb,op2 (x:=.loc L) (y:=aa!) u! u!,i2,Rb];rfl) u! u! aT (by lia) (by lia),iJ]
 have ph:q! (iL (uF b fH! (i2! i)))<=4:=by
  rw[zax (by rw[ln];exact hb)];simp[ln];lia
 generalize hW:iL (uF b fH! (i2! i))=W at *;have ot:=E.tu ((S++A::J)++[W]);have aA:E! ((S++A::J)++[W]) q6! A:=by simp
 have fin:∀(x:D) (row:List Int),x.flat=c!->x=rD row->∀ ρ:Ev,E! ρ 11 jB!->(∃y,E! ρ 12 (b! y)/\zU [y] ((S++A::J)++[W])=.ok x ((S++A::J)++[W]))->wM ρ ((S++A::J)++[W])=D! ρ (S++(A++[x])::(J++[W])):=λx row fx hx ρ gc ⟨y,pj,g⟩=>by
  rw[wM,zmE (s2:=(S++A::J)++[W]) (L:=S.length) (xs:=A) (x:=x) (vr gc) (by rw[xi (vr pj)];exact g) aA hA fx];have iK:((S++A::J)++[W]).set q6! (A++[x])=S++(A++[x])::(J++[W]):=by simp
  rw[iK]
 by_cases q:r=.tu
 ·refine⟨J++[W],L! (rot W),?_⟩;rw[zm gx,zm lQ,zm (by
   rw[wH,zeN (by rw[wT,op2 (x:=e) (y:=aI! gb!) u! rfl,ot];simp[q]),z1y,zN,zle (x:=.loc (q! (S++A::J))) (xs:=W) (k:=12) rfl (by simp[Dd.listOf]) (ef! _ rfl) ph];rfl)];have e1:rD (g3! (uF b fH! (i2! i)))=p! (rot W):=by
   rw[q,za4,<- hW];simp[rot,_cn,_aU]
  rw[e1];exact fin (p! (rot W)) _ (by rw[<- e1];exact yI _) e1.symm _ rfl (aC! _ (z8t _ _))
 ·refine⟨J++[W],es! (q! (S++A::J)),?_⟩;rw[zm gx,zm lQ,zm (by
   rw[wH,zil (by rw[wT,op2 (x:=e) (y:=aI! gb!) u! rfl,ot];simp[q])];rfl)];have e1:rD (g3! (uF b fH! (i2! i)))=p! W:=by rw[z8i q,<- hW]
  rw[e1];exact fin (p! W) _ (by rw[<- e1];exact yI _) (by rw[<- e1]) _ rfl (aC! _ (by simp[zU,zY]))
end
noncomputable def zcM(r:Rl)(b n:Nat)(Q:i!)(i:Nat):D:=rD (g3! (uF b (xp n i) (i2! i)))
theorem zhn(r:Rl)(b:Nat)(Q:i!):tD (z7k r b Q)=p! (aR! pz! (zcM r b pz! Q)):=by
 show gJ! _=gJ! _;congr 1;apply _aL;·simp[z7k,one]
 ·intro i h1 h2;simp[z7k,one,zcM,xp,(by simpa using h2)]
section
variable {n m:Nat}{v:i!}{d e:D}{r:Rl}(h:e5!)(E:RD e r){a0 a1 a2 a3 a4 a5 a6 a7 a8 a9 a10 a11 a12:r2!}{b:Nat}(hb:b<I!){Q:i!}(hQ:pz!=I!)
include h E hb hQ
theorem zqC{S:Sto} {L:Nat} {all:v!} (hL:E! S L (iL Q)):∀(k j:Nat) (J:Sto) (p9 c8:Option D),j+k=I!-> ∃J' dQ dR,yL [] all (ee! (yh 9 d ρ s) ((zx wE (bh! wL wH wM)) ρ' s')) ((oe! j k).map λi=>aD! (Z! i)) (EV z! a1 bA! a3 a4 a7! a6 a7 (es! L) p9 a10 jB! c8) (S++(aR! j (kb! r b Q))::J) = D! (EV z! a1 bA! a3 a4 a7! a6 a7 (es! L) dQ a10 jB! dR) (S++(aR! (j+k) (kb! r b Q))::J')
 | 0,j,J,p9,c8,_=>⟨J,p9,c8,by simp[yL,okG]⟩ | k+1,j,J,p9,c8,hj=>by
  have l4:=h.toLot.le4;obtain⟨J1,gy,e1⟩:=zsC (a1:=a1) (a3:=a3) (a4:=a4) (a6:=a6) (a7:=a7) (a10:=a10) h E hb hQ hL (i:=j) (by lia) (aR! j (kb! r b Q)) (by simp;lia) J c8;obtain⟨J2,q9,pq,e2⟩:=zqC hL k (j+1) J1 aH! gy (by lia);refine ck! J2 q9 pq ?_;rw[(show aR! j (kb! r b Q)++[rD (g3! (uF b (xp I! j) (i2! j)))]=aR! (j+1) (kb! r b Q) from by
   rw[List.range_succ,_cr];rfl)]at e1;rw[List.range'_succ,_u,yL,_i (by intro p hp;cases hp),va,Rb];simp only[_L,_E];rw[e1,Rb];simp only;rw[e2,show j+1+k=j+(k+1) by lia]
theorem zsp(D:LD d v) (hm:m<=hN!) {ps:jJ!} (dO:∀i∈ps,fo!) (hq:∀q∈Q,0<=q/\q<2 ^ m) (eQ:(am! (0<fJ!) (zfY v fJ! ps (lK! 0)) (lK! 0))=Q) (s:Sto): ∃s',(bh! xS uu (dE! xP wK xR xM xT)) (EV z! k! bA! a3 a4 a7! a6 l8! a8 a9 a10 a11 a12) s = cg! (.rt (p! [rD (g3! (cC! Q b)),tD (z7k r b Q)]))/\s'.take cm!=s:=by
 have l4:=h.toLot.le4;have f13:=zsY (a0:=z!) (a1:=k!) (a3:=a3) (a4:=a4) (a5:=e! (h! b)) (a6:=a6) (a7:=l8!) (a8:=a8) (a9:=a9) (a10:=a10) (a11:=a11) (a12:=a12) h s;obtain⟨p9,f14⟩:=zn6 (a0:=z!) (a2:=e4! I!) (a3:=a3) (a4:=a4) (a6:=a6) (a7:=l8!) (a10:=a10) (a11:=a11) (a12:=a12) h D hm hb (S0:=s++[[kR!]]) (all:=nL ps) ps (lK! 0) a9 dO (by simp);rw[eQ]at f14;generalize hS:(s++[[kR!]])++bF! Q=S at *;have hL:E! S (q! (s++[[kR!]])) (iL Q):=by rw[<- hS];simp
 have ce:s <+: S:=by
  rw[<- hS,_b5];exact List.prefix_append _ _
 generalize hLL:q! (s++[[kR!]])=L at *;have f17:=ztc (a0:=z!) (a2:=e4! I!) (a3:=a3) (a4:=a4) (a6:=a6) (a7:=l8!) (a9:=p9) (a10:=a10) (a11:=a11) (a12:=a12) h D hm S hb hL hQ hq;have f18:wK (EV z! k! (e4! I!) a3 a4 (e4! b) a6 l8! (es! L) p9 (L! (iL (cC! Q b))) a11 a12) S = D! (EV z! k! (e4! I!) a3 a4 (e4! b) a6 l8! (es! L) p9 (L! (iL (cC! Q b))) jB! a12) (S++(aR! 0 (kb! r b Q))::[]):=by rfl
 obtain⟨J,q9,gy,lR⟩:=zqC (a1:=k!) (a3:=a3) (a4:=a4) (a6:=a6) (a7:=l8!) (a10:=L! (iL (cC! Q b))) h E hb hQ (all:=aR! I! (λi:Nat=>j3! (i:Nat))) hL v.length 0 [] p9 a12 (by lia);have lV:xR (EV z! k! (e4! I!) a3 a4 (e4! b) a6 l8! (es! L) p9 (L! (iL (cC! Q b))) jB! a12) (S++(aR! 0 (kb! r b Q))::[]) = D! (EV z! k! (e4! I!) a3 a4 (e4! b) a6 l8! (es! L) q9 (L! (iL (cC! Q b))) jB! gy) (S++(aR! (0+I!) (kb! r b Q))::J):=by
  rw[xR,qE,jg (n:=v.length) (s1:=S++(aR! 0 (kb! r b Q))::[]) (by lia) (by rfl)];rw[List.range_eq_range']at lR ⊢;exact lR
 rw[_as]at lV;have aM:E! (S++(aR! I! (kb! r b Q))::J) q6! (aR! I! (kb! r b Q)):=by simp
 refine⟨S++(aR! I! (kb! r b Q))::J,?_,?_⟩
 ·generalize hT:S++(aR! I! (kb! r b Q))::J=T at *;have ot:=E.tu T;have fin:∀w:List Int,xT (EV z! k! bA! a3 a4 a7! a6 l8! (es! L) q9 (L! (iL w)) jB! gy) T=.ok (.rt (p! [rD w,tD (z7k r b Q)])) T:=λw=>by
   have e2:zU [.loc q6!] T=.ok (tD (z7k r b Q)) T:=by
    rw[zhn,hQ];simp only[zU,zY,aM]
   rw[xT,yf,z22,zy,xi (x:=e1! w) u!,(z8t _ _),Rb,zy,xi (x:=.loc q6!) u!,e2,Rb,zP];simp only[Rb];rw[_i (by simp[cap])];rfl
  rw[zm f13,zm (by exact f14),zm f17,zm f18,zm lV];have lw:q! (cC! Q b)=I!:=by simp[left,hQ]
  by_cases q:r=.tu
  ·rw[zm (by
    have e3:rot (iL (cC! Q b))=iL (g3! (cC! Q b)):=by
     rw[q,za4];simp[rot,_cn,_aU]
    rw[xM,zeN (by rw[wT,op2 (x:=e) (y:=aI! gb!) u! rfl,ot];simp[q]),z1o,zN,zle (x:=e1! (cC! Q b)) (xs:=iL (cC! Q b)) (k:=10) rfl (by rfl) cZ! (by simp[lw];lia),e3];rfl)];exact fin _
  ·rw[zm (by
    rw[xM,zil (by rw[wT,op2 (x:=e) (y:=aI! gb!) u! rfl,ot];simp[q])];rfl),z8i q];exact fin _
 ·obtain⟨t,rfl⟩:=ce;simp
end
theorem zj9(w:i!)(T:Tb):(gJ! [rD w,tD T]).flat=c!:=by
 have h1:(rD w).flat=c!:=yI _;show ((rD w).flat&&((tD T).flat&&sd! []))=c!;rw[h1,(show (tD T).flat=c! from by
  show da! nu!;induction T with
  | nil=>rfl | cons r T ih=>
   show ((rD r).flat&&sd! nu!)=c!;rw[ih,Bool.and_true];exact yI r)];rfl
section
variable {n m:Nat}{v:i!}(r:Rl)(h:e5!)(he:en!)(hm:m<=hN!)
include h he hm
theorem zm3(s:Sto):qq [bE!,az!] s=bc! [rD dt!,tD fN!]:=by
 have key:hM! (LD d v->RD e r->qq [e,d] s=bc! [rD dt!,tD fN!]):=λd e D E=>by
  have l4:=h.toLot.le4;have st:zv [fS!,dW!,fR!,"_law_order",nk!,om!,qR!,iR!,qS!,er!,on!,"_law_lines",gg!] [e,d]=EV z! k! a! a! a! a! a! a! a! a! a! a! a!:=rfl;have f1:=zuN (a0:=z!) (a2:=none) (a3:=none) (a4:=none) (a5:=none) (a6:=none) (a7:=none) (a8:=none) (a9:=none) (a10:=none) (a11:=none) (a12:=none) h.toLot D s;obtain⟨qs,f2,gA,pw⟩:=zj0 dA! he (EV z! k! bA! a! a! a! a! a! a! a! a! a! a!) s (by rw[<- D.eq];rfl);have pr:uU (EV z! k! bA! a! a! a! a! a! a! a! a! a! a!) s=aO! (EV z! k! bA! d0! a! a! a! a! a! a! a! a! a!):=f2;have ql:j1!<=4:=by
   have nd:qs.Nodup:=pw.imp λ{a b} q z=>by rw[z,zg6]at q;cases q
   have h2:=zkz dA! he;have:j1!<=q! (zau v):=List.Nodup.length_le_of_subset nd λa ha=>(gA a).mp ha;lia
  have f3:=zv4 (a0:=z!) (a3:=d0!) (a4:=none) (a5:=none) (a6:=none) (a7:=none) (a8:=none) (a9:=none) (a10:=none) (a11:=none) (a12:=none) h.toLot D s;obtain⟨jC,eh⟩:=zdG fT! h.toLot.nzne gA pw;have f4:=zv3 (v:=v) (a1:=k!) (a2:=bA!) (a4:=dr!) (a5:=none) (a6:=none) (a7:=none) (a8:=none) (a9:=none) (a10:=none) (a11:=none) (a12:=none) s E eh;have dl:=uE r dA! he;have qb:=zoJ r h he;have fin:∀(a6:Option Dd.D) (ps:List Nat),(∀i∈ps,fo!)->(am! (0<bs! aL!) (zfY v (bs! aL!) ps (lK! 0)) (lK! 0))=dk!-> (bh! wn wu (dE! ue xU xS uu (dE! xP wK xR xM xT))) (EV z! k! bA! d0! dr! (b! (zkI v r)) a! a! a! a! a! a! a!) s = (bh! xS uu (dE! xP wK xR xM xT)) (EV z! k! bA! d0! dr! (e! (Z! aL!)) a6 l8! a! a! a! a! a!) s-> qq [e,d] s=bc! [rD dt!,tD fN!]:=λa6 ps dO eQ eF=>by
   obtain⟨s',et,tk⟩:=zsp (a3:=d0!) (a4:=dr!) (a6:=a6) (a8:=none) (a9:=none) (a10:=none) (a11:=none) (a12:=none) h E dl.lt (Q:=dk!) (xa _ _) D hm dO qb eQ s;simp only[qq,z6k,Mof,z4l,st,_h,_l,_v];rw[zm f1,zm pr,zm f3,zm f4,eF,et];simp only;rw[z11 (zj9 _ _),tk];rfl
  have ol:=E.le s;have on:=E.nx s;have oi:=E.in_ s;have iM:r≠.le->∀x,wn (EV z! k! bA! d0! dr! x a! a! a! a! a! a! a!) s=aO! (EV z! k! bA! d0! dr! x a! a! a! a! a! a! a!):=λq x=>by
   rw[wn,zil (by rw[wT,op2 (x:=e) (y:=kY!) u! rfl,ol];simp[q])];rfl
  have iN:r≠.nx->∀x,wu (EV z! k! bA! d0! dr! x a! a! a! a! a! a! a!) s=aO! (EV z! k! bA! d0! dr! x a! a! a! a! a! a! a!):=λq x=>by
   rw[wu,zil (by rw[wT,op2 (x:=e) (y:=jN!) u! rfl,on];simp[q])];rfl
  have dw:∀(x6:Option Dd.D) (b:Nat) (z:Option Dd.D),(r=.nx\/r=.le)->xU (EV z! k! bA! d0! dr! (e! (Z! b)) x6 z a! a! a! a! a!) s = aO! (EV z! k! bA! d0! dr! (e! (Z! b)) x6 (L! (nL [a8!])) a! a! a! a! a!):=λx6 b z q=>by
   rw[xU,zeN (by rw[wT,op2 (x:=e) (y:=p! [jN!,kY!]) u! rfl,oi];simp[q]),z1t,zN,zdR,zy,vr (d:=d! a8!) rfl];simp only[Rb,zP];rw[_i (by simp[cap])];rfl
  have fQ:∀(x6:Option Dd.D) (b:Nat) (z:Option Dd.D),¬ (r=.nx\/r=.le)->xU (EV z! k! bA! d0! dr! (e! (Z! b)) x6 z a! a! a! a! a!) s = aO! (EV z! k! bA! d0! dr! (e! (Z! b)) x6 z a! a! a! a! a!):=λx6 b z q=>by
   rw[xU,zil (by rw[wT,op2 (x:=e) (y:=p! [jN!,kY!]) u! rfl,oi];simp[q])];rfl
  have bX:=λ(x6:Option Dd.D) (b:Nat)=>zss (a0:=z!) (a1:=k!) (a3:=d0!) (a4:=dr!) (a6:=x6) (a7:=none) (a8:=none) (a9:=none) (a10:=none) (a11:=none) (a12:=none) h.toLot s b;have lX:=(zcr h.toLot.ne).1;have fR:a3! (mn!).2->0<bs! aL!:=λq=>dl.pos.resolve_left q;cases hr:r with
  | nx=>
   subst hr;have p0:=fR (by simp[deal]);refine fin (e! hk!) [a8!] (by simpa using lX) (by rw[_i p0,z16];rfl) ?_;have f7:wu (EV z! k! bA! d0! dr! (b! (zkI v .nx)) a! a! a! a! a! a! a!) s=aO! (EV z! k! bA! d0! dr! (e! (Z! (no! .nx).1)) (e! hk!) a! a! a! a! a! a!):=by
    rw[wu,zeN (by rw[wT,op2 (x:=e) (y:=jN!) u! rfl,on];rfl),zm (zvl dA! s he gA pw ql)];exact zuD dA! s he D
   rw[zm (iM (by decide) _),zm f7,zm (bX _ _),zm (dw _ _ _ cZ!)] | le=>
   subst hr;have p0:=fR (by simp[deal]);refine fin a! [a8!] (by simpa using lX) (by rw[_i p0,z16];rfl) ?_;have f5:wn (EV z! k! bA! d0! dr! (b! (zkI v .le)) a! a! a! a! a! a! a!) s=aO! (EV z! k! bA! d0! dr! (e! (Z! (no! .le).1)) a! a! a! a! a! a! a!):=by
    rw[wn,zeN (by rw[wT,op2 (x:=e) (y:=kY!) u! rfl,ol];rfl)];exact zvb dA! s he gA pw ql
   rw[zm f5,zm (iN (by decide) _),zm (bX _ _),zm (dw _ _ _ (Q! rfl))] | al=>
   subst hr;have p0:0<bs! (no! .al).1:=by
    obtain⟨_,l2,l3⟩:=zcq h.toLot.nzne;have:=Pm.vP fT! dn!;show 0<bs! dn!;lia
   refine fin a! (wC v dn!) (eP! (vU.mp hi).1) (by rw[_i p0,z16];rfl) ?_;rw[zm (iM (by decide) _),zm (iN (by decide) _),show zkI v .al=j3! dn! from rfl,zm (bX a! dn!),zm (fQ _ _ _ (by decide))];rfl | tu=>
   subst hr;refine fin a! (wC v 0) (eP! (vU.mp hi).1) ?_ ?_
   ·by_cases q:fM!=0
    ·have e2:mV!=(0,[]):=by
      show (0,ai! fM! 0 [] (wC v 0))=_;rw[_i q]
     rw[e2,_q (by show ¬ 0<fM!;lia),zgc]
    ·have e2:mV!=(0,wC v 0):=by
      show (0,ai! fM! 0 [] (wC v 0))=_;rw[_q q]
     have:=Pm.vP fT! 0;rw[e2,_i (by show 0<fM!;lia),z16]
   rw[zm (iM (by decide) _),zm (iN (by decide) _),show zkI v .tu=j3! (Z! 0) from rfl,zm (bX a! 0),zm (fQ _ _ _ (by decide))];rfl
 exact key _ _ (LD.of dA!) (RD.of r)
end
end Po
namespace Pn
open L2 Dd Pm Pg
theorem z4a:LeM vX vY:=LeM.mof (sx! LeS.rfl)
theorem zes:LeM zW zA:=rp! (rS! z4a) (rS! z1L)
theorem zdP{M:Mir} (h:aM!=j! x)(hx:M [x] s=em!):ze M (bI! f) ρ s=em!:=by rw[xi h,hx]
theorem z5m{M:Mir} (h:aM!=j! x)(h2:g ρ s=j! y)(hx:M [x,y] s=em!):ze M (aQ! f g) ρ s=em!:=by rw[px! h h2,hx]
section
variable {d y:D}{s:Sto}
theorem z7R(h:vm [d] s=dZ!):vY [d] s=.ex g6! s:=by
 have st:zv cY! [d]=cQ!:=rfl;simp only[vY,kX,z2M,st,_h,_l,_v,z1r,ke,z01,wT,xi (x:=d) (vr (ρ:=cQ!) (i:=0) (s:=s) rfl),h,Rb];rfl
theorem zfw(h:vm [d] s=dZ!):zA [d,y] s=.ex g6! s:=by
 simp only[zA,kX,wf,st,_h,_l,_v];rw[zh4 (c:=g6!) (s':=s) (by exact zcC (zdP (x:=d) u! (z7R h)))]
theorem zk8(h:yZ [y] s=dZ!):zA [bE!,y] s=.ex g5! s:=by
 have k:=z4a.ok (z6a r s);exact (λd k=>by
  simp only[zA,kX,wf,st,_h,_l,_v];rw[zm (ρ':=h2! d y) (s':=s) (by rw[vE,z0M,xi (x:=d) u!,k];rfl),vJ,zcC (zdP (x:=y) u! (z2A h))]:∀d:D,vY [d] s=fh!->zA [d,y] s=.ex g5! s) _ k
end
end Pn
namespace Po
open L2 Dd Pm Pg Pn
theorem zvD(ρ:Ev)(s:Sto):jw (bI! (T! 2)) ρ s=j! (([0,1]:i!).map pd!,[]):=by rfl
theorem zjo(k:Nat) (h:dv! I!):uB (k+1) az!:=by
 refine⟨by simp[cap];lia,ae! ?_⟩;obtain⟨y,_,rfl⟩:=iZ!;cases k<;>trivial
theorem twice(x:Str)(ρ:Ev)(s:Sto):eOp zqZ (kQ (bI! (bV! x))) (T! 2) ρ s=bt! [aY!,aY!]:=by rfl
theorem zoS(hx:PyData.strOk x=c!)(s:Sto):dNe (ad! [aY!,aY!]) (ad! [aY!,aY!]) s=dZ!:= ne_self (k:=2) (by simp[okD,hx]) (by decide) s
theorem zjD(h:a2!) (s:Sto):xt gD! s=bz! nw!:=by
 have l4:=h.le4;exact (iM! (by
  have st:zv [dW!] [d]=cQ!:=rfl;have c:=xX (s:=s) (ρ:=cQ!) (fi:=cN!) (mp:=[a!]) (fg:=yh 0) (ft:=gP! dGt o! C!) (fe:=o!) D.int D.int (λx=>ey! 0 x) (λx=>[e! x]) v (z2K (by rw[show gJ! (v.map pd!)=d from hd.symm];exact u!)) (λx _=>by rfl) (λx _=>by rfl) (λx _ _=>by rfl) (by simp[cap];lia);have e:v.filter (λx=>ey! 0 x)=nz v:=by
   refine List.filter_congr (ae! ?_);have:=h.nn x hx;by_cases q:x=0;·simp[q]
   ·simp[q,(show 0<x from by lia)]
  rw[e]at c;have lb:bw! (h! (ho! v)=1)=nw!:=by
   unfold ended;by_cases e:ho! v=1;·simp[e]
   ·simp[e,(show ¬ h! (ho! v)=1 from by lia)]
  simp only[xt,Mof,z2L,st,_h,_l,_v,z1v,yf,yy,xi c,yH,zY,Rb,z0Z,zaR,_z,lb]):∀d:D,d=az!->xt [d] s=bz! nw!) _ rfl
noncomputable def rls:d9! Rl:=[.al,.le,.nx,.tu]
theorem ziQ(s:Sto):qT [] s=bt! (rls.map λr=>D.str (nmR r)):=by rfl
open PySem.Builtin.Str
noncomputable def noR(r:Rl):v!:=[aI! (Txt.upper (nmR r)),aI! (nmR r++" "),aI! (ri! (nmR r) (b! 1)),aI! (nmR r++"s"),aI! "",aJ!,d! 3,p! [bE!],ad! [bE!],ew!,.dct]
theorem zl0(h:d∈noR r)(s:Sto):vm [d] s=dZ!:=by
 simp only[noR,_J,List.not_mem_nil,or_false]at h;cases r<;>rcases h with rfl | rfl | rfl | rfl | rfl | rfl | rfl | rfl | rfl | rfl | rfl<;>kernel_rfl
theorem zgo(r:Rl) (h:Pot s l):∃d s',um [dK!,bE!] s=cg! d/\d∈noR r/\kN s s' l:=by
 have st:zv [fd!,fS!,iR!] [dK!,bE!]=[N!,b8!,a!]:=rfl;have q1:kK [N!,b8!,a!] s=aO! [N!,b8!,L! (noR r)]:=by cases r<;>kernel_rfl
 obtain⟨x,s',e,a,b,dr⟩:=vw (f:=o!) (g:=T! 11) (far:=11) (ρ:=[N!,b8!,L! (noR r)]) h (by decide) (kw (by decide)) (by rfl) (by rfl);have hr:og!<q! (noR r):=by simp[noR];omega
 have ix:=wV (xs:=noR r) (d:=(noR r)[x.toNat]) (s:=s') a (by simp[hr]);refine⟨(noR r)[x.toNat],s',?_,_G hr,dr⟩;simp only[um,Mof,z0f,st,_h,_l,_v];rw[zm q1,kT,yf,yy];simp only[yi,_d,_c,Rb];rw[e,Rb,ix,Rb]
theorem zph(h:Pot s l) (hf:aM!=j! dK!):∃r s',eOp dIx (ze qT zj) (ze zB (aQ! f (T! 4))) ρ s=cg! bE!/\kN s s' l:=by
 obtain⟨x,s',e,a,b,dr⟩:=vw (f:=f) (g:=T! 4) (far:=4) (ρ:=ρ) h (by decide) (kw (by decide)) hf (by rfl);have hr:og!<rls.length:=by simp[rls];omega
 refine⟨rls[x.toNat],s',?_,dr⟩;have ix:=wV (xs:=rls.map λr=>D.str (nmR r)) (d:=aI! (nmR rls[x.toNat])) (s:=s') a (by simp[hr]);rw[yy,yg,zP,Rb,ziQ,Rb,e,Rb,ix]
end Po
namespace Po
open L2 Dd Pm Pg Pn
theorem zib{α:bL!} (og:okG G all s)(g f:α->D):∀(l:List α)(acc:List D),(∀x∈l,body (g x) s=j! (b! (f x)))->jZ!+j0!<=cap->qF G all dT! mO! acc s=j! (acc++mN!)
 | [],acc,_,_=>by simp[qF,og] | x::xs,acc,hb,hl=>by
  rw[_u,qF,_i og,hb x (by simp),Rb];simp only[_i (show jZ!<cap from by simp at hl;lia),(zib (all:=all) og g f xs (acc++[f x]) (cW! (hb y (by simp[hy]))) (by simp at hl ⊢;lia))];simp
theorem zgi{α:bL!} (g f:α->D)(ev:α->Ev)(l:ex!) (hi:fi ρ s=j! (mO!,G))(og:okG G mO! s)(hg:∀a∈l,fg (g a) (wZ mp ρ) s=j! (ev a))(he:∀a∈l,fe (ev a) s=j! (f a))(hl:j0!<=cap): zt fi mp fg zX fe ρ s=bt! mN!:=by
 rw[ut,uJ,hi,Rb,zib og g f l [] (by
  intro a ha;simp only[hg a ha,Rb];simp[he a ha]) (by simpa using hl)];rfl
section
variable {n m:Nat}{r:Rl}{v:i!}{ls:ff!}
noncomputable abbrev RV(d e:D)(L:Nat)(a4 a5:fD!):Ev:=[k!,z!,es! L,es! (L+1),a4,a5]
theorem zhX{s:Sto} : (s++[x,y]).set cm! z=s++[z,y]/\(s++[x,y]).set (cm!+1) z=s++[x,z]:=by
 constructor;·simp
 ·simp
theorem z9h{s:Sto} : E! (s++[x,y]) cm! x/\E! (s++[x,y]) (cm!+1) y:=by
 constructor;·simp
 ·simp
theorem zhc(hd:d=bE!) (hm:m<=hN!) (s:Sto) (Rn:f8! c):∀(pre:List (List Int)) (pt:List Tb) (a4 a5:Option D),ow! m c->pre.length+pt!<=50000->pt.length+pt!<=50000-> ∃b4 b5,wO (fk! (a0! xt (fy! 2 d1!))) (bh! jb qJ ja) (pt!+1) (kU! d e a4 a5) (s++[d8! [c],io!])=D! (kU! d e b4 b5) (s++[d8! ls,fX! (pt++jC!)]):=by
 have c7:∀(pre:List (List Int)) (pt:List Tb) (c:List Int) (a4 a5:Option D),ow! m c->eOp dIx H! d1! (kU! d e a4 a5) (s++[d8! [c],io!])=.ok (rD c) (s++[d8! [c],io!])/\z1N (tOf (a0! xt (fy! 2 d1!))) (kU! d e a4 a5) (s++[d8! [c],io!])=.ok (! nm! c) (s++[d8! [c],io!]):=λpre pt c a4 a5 h=>by
  have ix:=z71 (x:=lI!) (d:=rD c) (xs:=pre.map rD) (s:=s++[d8! [c],io!]) (by rw[zY];simp);have hE:=zjD dA! (s++[d8! [c],io!]);generalize (s++[d8! [c],io!])=S at *;have e1:eOp dIx H! d1! (kU! d e a4 a5) S=.ok (rD c) S:=by rw[op2 (x:=lI!) (y:=d! (-1)) u! (by rfl),ix]
  refine as! e1 ?_;rw[z01,z2q (b:=nm! c) (by rw[xi e1,hE]),Rb]
 induction Rn with
 | @done v hend=>
  intro pre pt a4 a5 h hl ge;refine aV! a4 a5 ?_;rw[wO,(c7 pre pt v a4 a5 h).2,hend];simp[zK] | @step v ls hend Rn ih=>
  intro pre pt a4 a5 h hl ge;obtain⟨b4,b5,ih⟩:=ih (pre++[v]) (pt++[fN!]) (b1! dt!) ku! (oY! hend) (by simp at hl ⊢;lia) (by simp at ge ⊢;lia);rw[_h,wO,(c7 pre pt v a4 a5 h).2,hend,Rb];have lY:=zm3 r h hend hm (s++[d8! [v],io!]);rw[<- hd]at lY;have f4:jb (kU! d e a4 a5) (s++[d8! [v],io!])=D! (kU! d e (b1! dt!) ku!) (s++[d8! [v],io!]):=by
   rw[jb,zhK,call2 (x:=d) (y:=az!) u! ((c7 pre pt v a4 a5 h).1),lY,Rb];rfl
  have f5:qJ (kU! d e (b1! dt!) ku!) (s++[d8! [v],io!])=D! (kU! d e (b1! dt!) ku!) (s++[bC! (pre++[v]++[dt!]),io!]):=by
   have fl:(rD dt!).flat=c!:=yI _;rw[qJ,z0M,z8G];simp only[yi,_c,_d,Rb,z9h.1,_i (show (rD dt!).flat=c!/\q! (d8! [v])<cap from as! fl (by simp[cap]at hl ⊢;lia)),zhX.1];simp
  have f6:ja (kU! d e (b1! dt!) ku!) (s++[bC! (pre++[v]++[dt!]),io!])=D! (kU! d e (b1! dt!) ku!) (s++[bC! (pre++[v]++[dt!]),fX! (pt++[fN!])]):=by
   have ln:q! io!<cap:=by simp[cap]at ge ⊢;lia
   rw[ja,z0M,z8G];simp only[yi,_c,_d,Rb,z9h.2,_i (show (tD fN!).flat=c!/\q! io!<cap from as! (z8u _) ln),zhX.2];simp
  rw[zm f4,zm f5,f6,Rb];simp only;rw[ih,Rn.tabs_cons];simp
theorem zqS(r:Rl)(h:e5!)(Rn:f8! v)(hm:m<=hN!)(hl:oW!)(s:Sto):z0U [bE!,az!] s=.ok (p! [lI!,.loc (cm!+1)]) (s++eH! fl!):=by
 have key:hM! (d=bE!->e=az!->z0U [d,e] s=.ok (p! [lI!,.loc (cm!+1)]) (s++eH! fl!)):=q3! (by
  have st:zv [fS!,dW!,pp!,pq!,on!,jw!] [d,e]=[k!,z!,a!,a!,a!,a!]:=rfl;have f1:z0b [k!,z!,a!,a!,a!,a!] s=D! [k!,z!,W!,a!,a!,a!] (s++[[e]]):=by
   simp only[z0b,zN,z77,zy,zP,yi,_d,_c,Rb];rw[cd! (by simp[cap]) (by simp[flC,flN,(show e.flat=c! from by rw[he];exact (yI _))])];rfl
  have f2:z0o [k!,z!,W!,a!,a!,a!] (s++[[e]])=D! (kU! d e a! a!) (s++[[e],[]]):=by
   simp only[z0o,zN,z77,zP,Rb];rw[cd! (by decide) (by rfl)];simp[RV]
  obtain⟨b4,b5,lp⟩:=zhc (e:=e) hd hm s Rn [] [] none none h (by simpa using hl) (by simpa using hl);rw[_av,show bC! [v]=[e] from by rw[he];rfl]at lp;simp only[z0U,Mof,z6V,st,_h,_l,_v];rw[zm f1,zm f2,zm (by rw[z4r];exact z2B lp (by simp)),z4s,yf,z22];rfl)
 exact key _ _ rfl rfl
end
end Po
namespace Pr
open L2 Dd Pm Pg Pn Po
open PySem.W
theorem zpS(aD:∀i j,i<N->j<N->i≠j->lt j i=! lt i j)(tr:∀i j k,di! i j->di! j k->di! i k)(hN:1<=N)(h:∀i j,i<j->j<N->di! i j): d3! N (qI! N (gi! N))=b! (N,gi! N):=by
 have P:PmN N (gi! N):=⟨by simp⟩;have at_:∀i,i<N->at0 (gi! N) i=i:=eP! (by simp[hi])
 obtain⟨m,e1,e2,e3,e4,e5⟩:=z9F aD tr P (N-1) 1 al! (by lia) (λi j h1 h2=>by lia);have em:m=N:=by
  by_cases q:m<N
  ·exfalso;have z:=e5 (by lia);rw[at_ m q,at_ (m-1) (by lia),aD (m-1) m (by lia) q (by lia),h (m-1) m (by lia) q]at z;cases z
  ·lia
 unfold kas_count;rw[kj,e1];simp only[_N];rw[_i (by simpa using em),em];rfl
theorem range_getD{L:ff!}:aR! aA! (λi=>cx! i)=L:=by
 apply _aL;·simp
 ·intro i h1 h2;simp[h2]
theorem zmv(nd:L.Nodup)(h:aA!<64\/Up L):∃p,zqn L=b! p/\qH! (mb! aA!)/\Up (j9! (cx! i)):=by
 have aD:∀i j,i<aA!->j<aA!->i≠j->gK! (cx! j) (cx! i)=! gK! (cx! i) (cx! j):=λi j hi hj aJ=>by
  refine zeo λz=>aJ ?_;simp only[_n,_b hi,_b hj,_aD]at z;exact (_a0 nd).mp z
 have tr:∀i j k,gK! (cx! i) (cx! j)=c!->gK! (cx! j) dN!=c!->gK! (cx! i) dN!=c!:=λi j k=>zgu;unfold zqn;by_cases q:aA!<2
 ·rw[_i q];refine mE! _ (by simp) ?_;rw[show (gi! aA!).toList=mb! aA! by simp,range_getD];match L,q with
  | [],_=>exact List.Pairwise.nil | [a],_=>exact List.pairwise_singleton _ _
 ·rw[_q q];by_cases q2:aA!<64
  ·rw[_i q2];obtain⟨p,e,h1,h2⟩:=ziP aD tr (by lia);exact⟨p,e,h1,by rw[Up,List.pairwise_map];exact h2⟩
  ·rw[_q q2];have hu:=h.resolve_left q2;rw[zpS aD tr (by lia) (λi j aJ hj=>by
    have:=List.pairwise_iff_getElem.mp hu i j (by lia) hj aJ;simpa[show i<aA! by lia,hj] using this)];simp only;rw[_i trivial];refine mE! _ (by simp) ?_;rw[show (gi! aA!).toList=mb! aA! by simp,range_getD];exact hu
theorem zjr{d:D}(hd:l4! d=b! (F.map rD))(nd:F.Nodup)(h:F.length<64\/Up F)(ne:∀v∈F,a3! v):∃G:List (List Int),z7U s d=b! (G.map rD)/\Up G/\(∀x,x∈G ↔ x∈F)/\G.length=F.length:=by
 obtain⟨p,e,pm,up⟩:=zmv nd h;have mem:∀i,i∈p.toList ↔ i<F.length:=λi=>by rw[pm.mem_iff,_aN]
 have ln:rY! F.length:=by have:=pm.length_eq;simpa using this
 refine⟨j9! (F.getD i []),?_,up,λx=>?_,by simpa using ln⟩
 ·have t := zbw F;unfold z7U;rw[hd];simp only[t,e];rw[_i]
  ·congr 1;rw[_ae];refine _ao (eP! ?_);have:=(mem i).mp hi;simp[this]
  ·refine⟨?_,?_,by simpa using ln⟩
   ·rw[_T];intro v hv;have:=ne v hv;cases v with
    | nil=>exact fe! iP! | cons a b=>rfl
   ·rw[_T];intro i hi;simpa using (mem i).mp hi
 ·have:(j9! (F.getD i [])).Perm F:=by
   have:=pm.map (λi=>F.getD i []);rwa [range_getD]at this
  exact this.mem_iff
end Pr
namespace Dt
noncomputable def at_(pv:rm!)(i:Nat):Keyed:=pv.getD i (Value.none,Value.none)
structure Env(prog:Program)(w:World)(A:Around)(s:Shared)(κ:SortKind)(P:Keyed->g!)(rk:Keyed->Nat):g! where ec:∀x y,P x->P y->∀(C:Bool->Shared->Prop)(E:Value->Shared->Prop),C (bw! (rk x<rk y)) s->cB! w A (keyLt' κ x.1 y.1) C E s
section
variable {rk:Keyed->Nat}{a b x y r:rm!}
noncomputable def write(a r:rm!)(sa:Nat):rm!:=r.toList.zipIdx.foldl (λa p=>a.setIfInBounds (sa+p.2) p.1) a
end
section
variable {prog:Program}{w:World}{A:Around}{E:bX!}{s:Shared}{κ:SortKind}{a₀:rm!}{rk:Keyed->Nat}(V:Env m6! w A s κ (· ∈ a₀.toList) rk) {st:SortSt}
structure SB(κ:SortKind)(a₀:rm!)(st:SortSt):g! where
 perm:(pi! st).Perm a₀
 kind:kindOf st=κ
 failed:failedOf st=a!
end
end Dt
namespace L2
noncomputable def zu7(lo:Int)(n:Nat):It:=⟨λi _=>i<n,λi H x H'=>H'=H/\x=d! (lo-i),λi _=>n<=i⟩
theorem zgE{P:Program} {w:World} {K:W.Frag} {tg:Expr} (it:Addr) (lo:Int) (n:Nat):zji P w K tg (zu7 lo n) [it] it (λi h=>IsRangeIter h it (lo+dX! i*(-1)) (h! n-dX! i) (-1)) where
 mem:=by simp
 obj:=λi h st b hb=>by
  have e:b=it:=by simpa using hb
  subst e;exact bM! st (λv z=>by
   have z' := z;cases z')
 keep:=λi h h' st k=>k it (by simp) _ st;item:=by
  intro X hP hw hK hc i ae s O H E I hf st hg;subst hP hw hK;obtain⟨f0,f1,f2,f3,f4,f5⟩:=hf it (by simp);have W:=Walks.range (prog:=X.prog) (w:=X.w) hg! it lo (-1) n;refine W.item i s _ _ hg st λv h' tk hv ay kk=>?_;obtain⟨t,rfl⟩:=hv;have I1:lL! ({s with heap:=h',toks:=tk}):=I.turned (kA! (kk b o (by simpa using hb) e)) f0 f1 f3 f4 f5;refine aC! _ (ziL ay rfl rfl (by decide) ⟨d! (lo-i),H,I1,as! t ?_,co! rfl,ay,cl! (hf b hb).1⟩);rw[show lo+h! i*-1=lo-i by lia]
 done:=by
  intro X hP hw hK hc i ae s O H E I hf st hg;subst hP hw hK;obtain⟨f0,f1,f2,f3,f4,f5⟩:=hf it (by simp);exact wpAny_pyNext_range_end hg! st (by have:n<=i:=hg;lia) λh' eb=>iq! (I.turned (t':=s.toks) (kA! (eb b o hb e)) f0 f1 f3 f4 f5)
 self:=λ_ _ _ _ _ st h=>wpAny_pyIter_rangeiter st h
section
variable {X:Cx}{tg:Expr}
theorem zbV{a b:Int}:Builtin.Range.rangeSize a b (-1)=Z! (fc! (a-b)):=by
 unfold Builtin.Range.rangeSize;rw[_q (by lia)];by_cases h:b<a;·first
   | (rw[_i (by lia)];simp;lia) | (simp[h];lia)
 ·first
   | (rw[_q (by lia)];lia) | (simp[h];lia)
theorem small_down{a b:Int}(h1:-ft!<=a)(h2:dv! a)(h3:-ft!<=b)(h4:dv! b):Builtin.Range.small a b (-1)=c!:=by
 unfold Builtin.Range.small;rw[zbV];simp only[Builtin.Range.rangeFitsLong,_R,Bool.or_eq_true,_ay,_aA];refine⟨by lia,Q! ?_⟩;rw[_q (by lia)];simp only[_R,_ay];lia
theorem zmg{a b c:Expr} {ta:TA} {p pos:Pos} (hg:oR!) (hm:dF! fr!) (ha:PA X [a,b,c] ta) (bT:A! (aw! [a,b,c]=[dY! a,dY! b,dY! c])) (dg:A! (aw! [b,c]=[dY! b,dY! c])): PI X tg (dl! fr! p [a,b,c]) (λO H R=>ta O H λvs H1=>∃i j:Int,vs=[aa!,d! j,d! (-1)]/\(-ft!<=i/\dv! i/\-ft!<=j/\dv! j)/\R (zu7 i (i-j).toNat) H1):=by
 intro ae s O H R I h;refine Call_ (z1z I hg hm boot_range (_aa (thn (ha pos ae s O H _ I h) λus s1 ⟨vs,H1,I1,r1,q1⟩=>?_) (by rw[bT,dg]) (by rw[dg];rfl)));obtain⟨i,j,e,⟨b1,b2,b3,b4⟩,q⟩:=q1;subst e;cases r1 with | cons r r1=>cases r1 with | cons r' r1=>cases r1 with | cons pz r1=>
    cases r1;obtain⟨t,rfl⟩:=r;obtain⟨t',rfl⟩:=r';obtain⟨gB,rfl⟩:=pz;refine call_range_3 (by lia) ?_ (y! (_bR (by decide +kernel)));refine wpAny_pyIter_range (IsRange.new ..) (small_down b1 b2 b3 b4) ?_;have I2:cI! H1 ({s1 with heap:=qc! ({cls:=lS!,data:=eJ! #[b7! i,bx! j t',bx! (-1) gB]}),toks:=s1.toks}):=n1! (l1! _ e);refine⟨eb! (qc! ({cls:=lS!,data:=eJ! #[b7! i,bx! j t',bx! (-1) gB]})),[eb! (qc! ({cls:=lS!,data:=eJ! #[b7! i,bx! j t',bx! (-1) gB]}))],_,_,H1,rfl, I2.kept (l1! _ e),zgE _ i (i-j).toNat,?_,cl! ?_,q⟩
    ·have e1:i+Z! 0*(-1)=i:=by simp
     have e2:Z! (fc! (i-j))-Z! 0=Builtin.Range.rangeSize i j (-1):=by rw[zbV];lia
     show IsRangeIter _ _ (i+Z! 0*(-1)) (Z! (fc! (i-j))-Z! 0) (-1);rw[e1,e2];exact g2!
    ·have e:b=eb! (qc! ({cls:=lS!,data:=eJ! #[b7! i,bx! j t',bx! (-1) gB]})):=by simpa using hb
     subst e;exact I2.fpOk al! (I2.hok.fresh al!)
end
end L2
namespace Dd
open L2
section
variable {X:Cx}{E:XK}{a b c tg:Expr}{pos:Pos}
noncomputable def vC(i:Int)(n:Nat):v!:=aR! n (λ(k:Nat)=>aD! (i-Z! k))
noncomputable def zfC(f:FA):FI:=b0! aM! (iN! (match ds with
 | [.int i,.int j,.int (-1)]=>ab! (-ft!<=i/\dv! i/\-ft!<=j/\dv! j) (M! (vC i (i-j).toNat,[])) | _=>.no))
theorem zpA{p:Pos}{f:FA}(hg:oR!)(hm:dF! fr!)(ha:RA X E [a,b,c] f)(bT:A! (aw! [a,b,c]=[dY! a,dY! b,dY! c]))(dg:A! (aw! [b,c]=[dY! b,dY! c])):RI X E tg (dl! fr! p [a,b,c]) (zfC f):= z7Y (zmg hg hm ha bT dg) λO H Q ⟨Y,ρ,s,r,en,h⟩=>by
  unfold zfC at h;refine⟨Y,ρ,s,r,en,dc! h (λvs H1 ⟨Y1,s1,ds,stp,dn,h1⟩=>?_)⟩;split at h1
  ·rename_i i j;split at h1
   ·rename_i hj;simp only[yj]at dn;obtain⟨v1,r1,rfl,d1,v2,r2,rfl,d2,v3,r3,rfl,d3,rfl⟩:=dn;cases yp d1;cases yp d2;cases yp d3;refine gR! i j hj (oB! (λH2 Y2 s2 ag _ k=>⟨iM! ?_,λhl=>?_⟩))
    ·have hi:k<fc! (i-j):=by
      have:=cM! hd;simpa[vC] using this
     refine⟨hi,λx H' ⟨e1,e2⟩=>?_⟩;subst e1 e2;refine⟨Y2,.refl ju!,?_⟩;have e3:d=aD! (i-k):=by
      simp only[vC,_A,_aF hi,_ag,_y]at hd;exact hd.symm
     rw[e3];exact yA
    ·have:q! (vC i (i-j).toNat)=fc! (i-j):=by simp[vC]
     show fc! (i-j)<=k;rw[<- this];exact hl
   ·exact h1.elim
  ·exact h1.elim
@[simp] theorem znb(f:FA)(ρ:Ev)(s:Sto):zfC f ρ s=kc! (iN! (match ds with
 | [.int i,.int j,.int (-1)]=>ab! (-ft!<=i/\dv! i/\-ft!<=j/\dv! j) (M! (vC i (i-j).toNat,[])) | _=>.no)):=U!
noncomputable def zdw:D->D->bl!:=l3! (ab! (j≠0/\jX!<BIG) (iOk (d! (i.fdiv j))))
theorem zjh:gv! .FloorDiv (rI (λ_ j=>j≠0/\jX!<BIG) (mF! (i.fdiv j))):=opI λi j _ _ _ _ _ hc q=> floordiv_int hc.1 q (y! (_bR (zgj hc.2)))
theorem znU:∃r,gv! .FloorDiv r/\cS! zdw:=bM! zjh (lM! (by
 split at e
 ·rename_i hc;simp only[iOk,R.ok.injEq]at e;exact⟨i,j,rfl,rfl,hc,q _ (by intro H Y;rw[<- e.1];exact yA)⟩
 ·cases e))
noncomputable def z7S:D->D->bl!:=l3! (ab! (hJ!<2 ^ (2 ^ 16)/\jX!<2 ^ (2 ^ 16)) (iOk (d! (i*j))))
theorem zaZ{i:Int}(h:hJ!<2 ^ (2 ^ 16)):Builtin.Int.intBits i<=2 ^ 20:=by
 have q:=(PySem.intBits_le_iff).mpr h;exact _H q (by decide)
theorem znq:ny! (rI (λi j=>hJ!<2 ^ (2 ^ 16)/\jX!<2 ^ (2 ^ 16)) (mF! (i*j))):=opI λ_ _ _ _ _ _ _ hc q=>mul_int q (IntMulOk.of_bits (zaZ hc.1) (zaZ hc.2))
theorem zhG:∃r,ny! r/\cS! z7S:=bM! znq (lM! (by
 split at e
 ·rename_i hc;simp only[iOk,R.ok.injEq]at e;exact⟨i,j,rfl,rfl,hc,q _ (by intro H Y;rw[<- e.1];exact yA)⟩
 ·cases e))
theorem zju{i j:Int}(h:j≠0)(hb:jX!<BIG)(s:Sto):zdw aa! (d! j) s=t! (i.fdiv j):=by
 simp only[zdw,dII,iOk];rw[cd! h hb]
theorem zgB{i j:Int}(h:hJ!<2 ^ (2 ^ 16))(hb:jX!<2 ^ (2 ^ 16))(s:Sto):z7S aa! (d! j) s=t! (i*j):=by
 simp only[z7S,dII,iOk];rw[cd! h hb]
end
end Dd
namespace aY
open L2 Dd Pg
noncomputable def rsX:aq!:=[g5!,g6!,ji!,jj!]
noncomputable def csX:aq!:=[g5!,ji!,nO!,nP!,jj!,nN!,g6!,nE!,nF!,nJ!,nG!,nL!,nI!,nQ!,nM!,nH!,nK!]
@[simp] noncomputable def z50:FS:=(yq 1 (kQ (fK! (hZ! g5!) (hZ! ji!) (hZ! nO!) (hZ! nP!) zj)))
@[simp] noncomputable def z4A:FS:=(yq 1 (jF! 1 (kQ (fK! (hZ! jj!) (hZ! nN!) (hZ! g6!) (hZ! nE!) zj))))
@[simp] noncomputable def z4U:FS:=(yq 1 (jF! 1 (kQ (fK! (hZ! nF!) (hZ! nJ!) (hZ! nG!) (hZ! nL!) zj))))
@[simp] noncomputable def z4T:FS:=(yq 1 (jF! 1 (kQ (fK! (hZ! nI!) (hZ! nQ!) (hZ! nM!) (hZ! nH!) zj))))
@[simp] noncomputable def z4H:FS:=(yq 1 (jF! 1 (kQ (bI! (hZ! nK!)))))
@[simp] noncomputable def z4O:FS:=(xf (bV! "other"))
@[simp] noncomputable def z52:FS:=(bp! (fOr (hq! (zpX n! (eC ew!)) ao!) (fk! (zue rsX o!))) z4O)
@[simp] noncomputable def z4K:FS:=(yq 2 (kQ (fK! (bV! aB!) (bV! eq!) (bV! cV!) (bV! "alike") (fK! (bV! "fair") (bV! "text") (bV! c8!) (bV! "ended") (bI! (bV! "bottom"))))))
@[simp] noncomputable def z4R:FS:=(yq 2 (jF! 2 (kQ (fK! (bV! "root") (bV! "cube") (bV! mh!) (bV! iQ!) (fK! (bV! "many") (bV! "step") (bV! "deed") (bV! "row") zj)))))
@[simp] noncomputable def z3m:FS:=(xf (fy! 2 (zpN n! (eC ew!))))
noncomputable def z6Z:FS:=(dE! z50 z4A z4U z4T (dE! z4H z52 z4K z4R z3m))
noncomputable def wG:Mir:=cT! [pA!,iR!,"_law_words"] z6Z
@[simp] noncomputable def jW:FS:=(yq 1 ej!)
@[simp] noncomputable def kG:FS:=(yq 2 (z1f (z4W (aQ! o! (cy! Pg.xr 1))) i9! (yM 0 1) zX (bd! (a6! z76) (cy! z76 1))))
@[simp] noncomputable def vd:FS:=(yq 4 (zt (zcg (cn! ba! 1)) (fm! 3 2) (yh 2) (hq! (df! (ax! 1 2) o!) C!) H!))
@[simp] noncomputable def vf:FS:=(yq 5 (df! (df! (a0! zao (kg! (zT (zd 4)) (fm! 3 2) 2 (cF! (a0! zkD (df! (ax! 1 2) o!)) H!))) C!) ao!))
@[simp] noncomputable def vx:FS:=(yq 6 (ax! 2 5))
@[simp] noncomputable def vk:FS:=(z0D H! (zd 5) (ax! 2 3))
@[simp] noncomputable def vA:FS:=(z0D H! ba! (zd 6))
@[simp] noncomputable def uf:FS:=(yq 8 (eOp zdw (df! (ax! 2 7) ba!) (ax! 6 3)))
@[simp] noncomputable def ui:FS:=(z0D H! (zd 7) (lW! (z4W (aQ! (zd 6) (ax! 2 7))) (dI! 8) (yM 1 2) (kt! 2 (et! z7S 0 n!))))
@[simp] noncomputable def wF:FS:=(gx! (zcg (cn! (gt! 3) 1)) 7 (zx uf ui))
@[simp] noncomputable def uT:FS:=(z1x (hq! (zt (zT (e2! H! (gt! 3))) (ag! 3) cj! (hq! (gq! 1) C!) n!) (kQ zj)) (zx vd (dE! vf vx vk vA wF)))
@[simp] noncomputable def jT:FS:=(gx! (ek! 1) 3 uT)
@[simp] noncomputable def ur:FS:=(z0D H! ba! (kg! (zT (ax! 2 3)) (fm! 3 2) 2 (et! z7S 2 (df! (gq! 1) o!))))
@[simp] noncomputable def uo:FS:=(yq 6 (ax! 2 3))
@[simp] noncomputable def uv:FS:=(yq 8 (df! (ax! 2 7) ba!))
@[simp] noncomputable def ub:FS:=(z0D H! (zd 7) (lW! (z4W (aQ! (zd 6) (ax! 2 7))) (dI! 8) (yM 1 2) (kt! 2 (et! z7S 0 n!))))
@[simp] noncomputable def ud:FS:=(gx! (ek! 3) 7 (bh! uo uv ub))
@[simp] noncomputable def jj:FS:=(gx! (zfC (zb (kt! 1 ao!) (aQ! d1! d1!))) 3 (zx ur ud))
@[simp] noncomputable def jl:FS:=(xf (eB! (zT H!) b9! 1 (pM! (e2! n! o!))))
noncomputable def z3T:FS:=(dE! jW kG jT jj jl)
noncomputable def qw:Mir:=z4X (cT! [jw!,fR!,kI!,eQ!,"_law_good","_law_first","_law_head",cv!,if!] z3T)
@[simp] noncomputable def jh:FS:=(zit (cU! Pg.km) (yM 2 3))
@[simp] noncomputable def jq:FS:=(yq 4 (a0! Pg.xr (hv! 1)))
@[simp] noncomputable def uc:FS:=(yq 4 (eU! Pg.jk (zd 4) 5))
@[simp] noncomputable def jn:FS:=(gx! (zT ba!) 5 uc)
@[simp] noncomputable def jf:FS:=(yq 6 (cy! qw 4))
@[simp] noncomputable def jt:FS:=(yq 7 (df! (zt (z20 (bI! (fy! 2 d1!))) i9! (yM 0 1) (gP! dGt n! C!) o!) C!))
@[simp] noncomputable def js:FS:=(xf (bd! (kQ (bI! (ax! 6 7))) (zt (z20 (cw! 6)) (dI! 7) (yM 1 2) (eg! 1 o!) H!)))
noncomputable def z2D:FS:=(zx jh (dE! jq jn jf jt js))
noncomputable def uz:Mir:=z4X (c3! [fS!,dW!,pp!,pq!,"_law_whole_here",jw!,gf!,eQ!] z2D)
@[simp] noncomputable def xG:FS:=(xf (zhJ (df! (kQ (aQ! (eC (.fn m4!)) (eC (.fn m3!)))) o!) [(m4!,Pg.vt),(m3!,Pg.yO)] (cn! n! 2)))
@[simp] noncomputable def jM:FS:=(xf (cy! wG 3))
@[simp] noncomputable def jN:FS:=(zpL rsX xG 3 jM)
noncomputable def z0w:FS:=jN
noncomputable def zI:Mir:=Mof ["_law_way",ed!,dV!,pA!] 3 z0w
@[simp] noncomputable def z5C:FS:=(yq 2 (a0! Pg.z0W (cU! Pg.ug)))
@[simp] noncomputable def z7e:FS:=(yq 3 (cy! Pg.z13 2))
@[simp] noncomputable def z6F:FS:=(yq 4 (df! (ze Pg.qT zj) (ze Pg.zB (aQ! H! (T! 4)))))
@[simp] noncomputable def z5W:FS:=(yq 5 (eU! uz (zd 4) 3))
@[simp] noncomputable def zmP:FS:=(xf (eC cJ!))
@[simp] noncomputable def z9r:FS:=(bp! (fk! (ze Pg.kh (aQ! (ze zI (zb C! (cn! (zd 4) 3))) (gX! 5)))) zmP)
@[simp] noncomputable def z6h:FS:=(gx! (jw (bI! (T! 2))) 6 z9r)
@[simp] noncomputable def z6l:FS:=(yq 7 (eOp z7r (ze Pg.zB (aQ! H! (T! 9))) (T! 4)))
@[simp] noncomputable def z2j:FS:=(yq 8 (fy! 5 (bd! ao! (ze Pg.zB (aQ! H! (eOp z7r (hv! 3) ao!))))))
@[simp] noncomputable def z2s:FS:=(yq 9 (pM! (lW! (z4W (cn! (gX! 5) 8)) (dI! 7) (yM 1 2) (jF! 1 (hz! 0 H!)))))
@[simp] noncomputable def z5j:FS:=(yq 10 (eU! or! H! 3))
@[simp] noncomputable def z14:FS:=(yq 12 (zaN (ze Pg.yw (aQ! (zd 11) (hv! 3))) (eOp dEq (eU! Pg.vO (zd 11) 3) (cy! Pg.qa 3))))
@[simp] noncomputable def zkl:FS:=(xf (eC cJ!))
@[simp] noncomputable def z2E:FS:=(bp! (fk! (eU! Pg.kh (ze zI (zb ao! (cn! ba! 11))) 12)) zkl)
@[simp] noncomputable def z5t:FS:=(gx! (zT (kQ (fK! (gX! 5) (zd 9) (ze or! (aQ! H! (gX! 5))) (eU! or! H! 9) (aQ! (fy! 5 ao!) (cy! Pg.vK 2))))) 11 (zx z14 z2E))
@[simp] noncomputable def z5h:FS:=(yq 13 (eU! Pg.um H! 4))
@[simp] noncomputable def zjQ:FS:=(xf (eC cJ!))
@[simp] noncomputable def z59:FS:=(bp! (fOr (hq! (ze zI (zb C! (cn! (zd 13) 3))) (bV! c8!)) (hq! (ze zI (zb C! (cn! (zd 13) 10))) (bV! c8!))) zjQ)
@[simp] noncomputable def zkq:FS:=(xf (eC cJ!))
@[simp] noncomputable def z5o:FS:=(bp! (zkV (fk! (cy! Pg.yz 10)) (hq! (kQ (aQ! (ze zI (zb C! (cn! (zd 4) 10))) (ze zI (zb ao! (aQ! (zd 10) (gX! 5)))))) (eOp zqZ (kQ (bI! (bV! aB!))) (T! 2)))) zkq)
@[simp] noncomputable def zco:FS:=(gx! (jw (bI! (ze zjW (aQ! ao! (ze zki (aQ! ej! je!)))))) 1 (dE! z5C z7e z6F z5W (dE! z6h z6l z2j z2s (dE! z5j z5t z5h z59 z5o))))
@[simp] noncomputable def z9G:FS:=(xf (zaN (eOp dEq (ze zI (zb C! (aQ! (eC jN!) (cF! C! (T! 4))))) (cF! C! ao!)) (eOp dIs (ze zI (zb ao! (aQ! (cF! C! (T! 4)) (cF! (T! 9) ao!)))) (eC ew!))))
noncomputable def zkB:FS:=(zx zco z9G)
noncomputable def znn:Mir:=cT! [lC!,pl!,fd!,dW!,fS!,kI!,"_law_turn",if!,pr!,lE!,"_law_bad",hL!,mi!,"_law_none"] zkB
end aY
set_option maxHeartbeats 6000000
namespace aY
open L2 Dd Pg
class Txt (P:Program)(w:World)(K:W.Frag)(mg:Str->aS!):g! where
 f0:∃t,fn! "LEAST_SIZE" (b7! 2)
 f1:∃t,fn! "MOST_SIZE" (b7! 4)
 f2:hx! iA!
 f3:hx! "abs"
 f4:hx! jh!
 f5:hx! ia!
 f6:hx! gE!
 f7:hx! eo!
 f8:hx! gF!
 f9:hx! "len"
 f10:hx! ea!
 f11:hx! nC!
 f12:hx! nD!
 f13:hx! fr!
 f14:hx! lh!
 f15:hx! gc!
 f16:hx! "sum"
 f17:hx! cV!
 f18:hx! iC!
 q:∀(i:Nat){x:Str}{st:Stmt},aj! askQ.fs (x,st)->Fq K mg x st
 T_RULES:zpn P w K mg "RULES" z2x
 E_NoRule:zo9 K mg g6!
 E_NoLot:zo9 K mg g5!
 E_NoTable:zo9 K mg ji!
 E_NotFair:zo9 K mg jj!
 FM:zds ⟨mg,K⟩ rsX csX
 KS:∀c∈rsX,zrY K mg c li!
theorem zoG:ll! "abs"=hV! "abs":=by decide +kernel
theorem zdf:ll! jh!=hV! jh!:=by decide +kernel
theorem z6H:kP! ia! (ar! ia!):=by decide +kernel
theorem zba:kP! eo! (ar! eo!):=by decide +kernel
theorem yV:ll! "len"=hV! "len":=by decide +kernel
theorem z36:kP! ea! db!:=by decide +kernel
theorem z29:ll! nC!=hV! nC!:=by decide +kernel
theorem zhg:ll! nD!=hV! nD!:=by decide +kernel
theorem za3:ll! lh!=hV! lh!:=by decide +kernel
theorem zlb:kP! gc! (ar! gc!):=by decide +kernel
theorem zkZ:ll! "sum"=hV! "sum":=by decide +kernel
theorem zZ:kP! cV! dC!:=by decide +kernel
theorem zvn:bo! [if!,ed!,dV!]:=by decide +kernel
theorem zu2:bo! [er!,cv!]:=by decide +kernel
theorem zvf:bo! [eQ!,er!,gg!]:=by decide +kernel
theorem zuz:bo! [fR!,gg!]:=by decide +kernel
theorem zuF:bo! [gg!,"_law_column"]:=by decide +kernel
theorem zuO:bo! [dW!,er!]:=by decide +kernel
theorem zuj:bo! [nk!,cv!,er!]:=by decide +kernel
theorem zuT:bo! [qR!,nk!,dW!,er!]:=by decide +kernel
theorem zvj:bo! [om!,er!]:=by decide +kernel
theorem zvg:bo! [qS!,dW!,om!,er!,cv!]:=by decide +kernel
theorem zrp:bo! [er!,"_law_column"]:=by decide +kernel
theorem ztQ:bo! [cv!]:=by decide +kernel
theorem ztf:bo! [ed!,dV!,eQ!]:=by decide +kernel
theorem zor:bo! [eQ!,gg!]:=by decide +kernel
theorem zrZ:bo! [qQ!,eQ!]:=by decide +kernel
theorem ztT:bo! [eQ!,"_law_side"]:=by decide +kernel
theorem ztk:bo! [gg!,ol!]:=by decide +kernel
theorem znB:bo! [eQ!,kI!,cv!]:=by decide +kernel
theorem zp6:bo! [if!,qP!,ol!]:=by decide +kernel
theorem zta:bo! [ed!,dV!]:=by decide +kernel
theorem ztL:bo! [aB!,ec!]:=by decide +kernel
theorem zs6:bo! [c8!,"ahead"]:=by decide +kernel
theorem zrm:bo! [lB!,ok!,eq!,ec!]:=by decide +kernel
theorem ztG:bo! [ok!,ec!,eq!,lA!]:=by decide +kernel
theorem zt7:bo! [kF!,ec!]:=by decide +kernel
theorem zsy:bo! ["part"]:=by decide +kernel
theorem zsi:bo! [jv!,lA!,iQ!]:=by decide +kernel
theorem ztD:bo! [qK!,ec!]:=by decide +kernel
theorem zop:bo! [iQ!]:=by decide +kernel
theorem zsB:bo! [aB!,ha!,iQ!,"quotient"]:=by decide +kernel
theorem zs8:bo! ["divided",aB!,ha!,"at"]:=by decide +kernel
theorem zsx:bo! [qL!,"at"]:=by decide +kernel
theorem ztW:bo! [c8!,ha!,ec!,"quotient"]:=by decide +kernel
theorem ztu:bo! [lB!,ec!]:=by decide +kernel
theorem ztV:bo! [ec!,lA!]:=by decide +kernel
theorem zsN:bo! ["one",lA!]:=by decide +kernel
theorem zsz:bo! [kG!,ec!]:=by decide +kernel
theorem zsm:bo! mP!:=by decide +kernel
theorem zsv:bo! [eq!,"at"]:=by decide +kernel
theorem zs4:bo! ["at",ec!]:=by decide +kernel
theorem ztO:bo! [lE!,cv!]:=by decide +kernel
theorem zsU:bo! [ed!]:=by decide +kernel
section
local macro_rules | `(tactic| trivial)=>`(tactic| exact⟨rfl,rfl,rfl,by decide +kernel,rfl,by decide +kernel,by decide +kernel⟩)
theorem zcI:R! cY! cY! z6R:=by trivial
theorem zcW:R! cY! cY! z68:=by trivial
theorem kH:R! mP! mP! kJ:=by trivial
theorem zcl:R! [ec!,kG!] [ec!,kG!] z5y:=by trivial
theorem z1u:R! [mh!,lB!] [mh!] z1C:=by trivial
theorem z98:R! [eq!] [eq!] z2o:=by trivial
theorem z8o:R! [jv!,"at_line",qK!,"kept"] [jv!,"at_line",qK!] z8A:=by trivial
theorem zeB:R! [ec!,lA!] [ec!,lA!] z8y:=by trivial
theorem vI:R! [aB!,"at"] hX! vH:=by trivial
theorem z7m:R! hX! hX! z1s:=by trivial
theorem zeP:R! [aB!,qL!] [aB!,qL!] z8J:=by trivial
theorem zey:R! cY! cY! z8b:=by trivial
theorem zj1:R! [c8!,kG!] [c8!,kG!] ze5:=by trivial
theorem z66:R! [lC!,pl!] [lC!,pl!] z0g:=by trivial
theorem vS:R! ["_law_cell",cv!,"_law_j",lE!] ["_law_cell"] z7h:=by trivial
theorem z3W:R! [fd!,po!,gf!] [fd!,po!] z4v:=by trivial
theorem z9u:R! [] [] z1Z:=by trivial
theorem zO:R! [fS!,dW!,fR!,"_law_order",nk!,om!,qR!,iR!,qS!,er!,on!,kI!,gg!] [fS!,dW!] z3M:=by trivial
theorem z8S:R! [dW!] [dW!] z1X:=by trivial
theorem z9s:R! [fR!] [fR!] z2J:=by trivial
theorem vT:R! [jw!,kH!,gf!,gg!,pm!,ed!,dV!] [jw!,kH!] z6v:=by trivial
theorem kD:R! [ed!,dV!,pm!,qP!,ol!] [ed!,dV!] z64:=by trivial
theorem z9k:R! [hL!] [hL!] z2Q:=by trivial
theorem qd:R! [kH!,gf!,cv!,dV!] [kH!] z5w:=by trivial
theorem yB:R! [pA!,iR!,"_law_words"] [pA!] z0e:=by trivial
theorem z9g:R! [kF!,"many"] [kF!,"many"] z1W:=by trivial
theorem z7M:R! [jv!,kG!] [jv!,kG!] z1n:=by trivial
theorem zbM:R! [jv!] [jv!] z47:=by trivial
theorem z8c:R! [aB!,qM!,qN!] hX! z8q:=by trivial
theorem z6B:R! [aB!,qM!,qN!] hX! z5G:=by trivial
theorem zaF:R! [aB!,ha!] hX! zaw:=by trivial
theorem zf5:R! hX! hX! z8H:=by trivial
theorem z4i:R! cY! cY! z41:=by trivial
theorem wb:R! [fd!,fR!,po!,"_law_thin",kH!,er!,cv!,lE!] [fd!] z6M:=by trivial
theorem jQ:R! [fS!,dW!,pp!,pq!,on!,jw!] [fS!,dW!] z5S:=by trivial
theorem qo:R! [ed!,dV!,fR!,qQ!] [ed!,dV!] z0i:=by trivial
theorem yo:R! [jw!,fR!,kI!,eQ!,"_law_good","_law_first","_law_head",cv!,if!] [jw!] z4u:=by trivial
theorem z3c:R! [hL!,if!] [hL!,if!] jG:=by trivial
theorem z0u:R! [fd!,fS!,iR!] [fd!,fS!] z0S:=by trivial
theorem z1e:R! [hL!,cv!] [hL!] z1k:=by trivial
theorem z69:R! [fd!,iR!] [fd!] z6A:=by trivial
theorem zbS:R! [gf!,mi!] [gf!,mi!] z3Y:=by trivial
theorem zg0:R! cY! cY! zbG:=by trivial
theorem zcx:R! cY! cY! z60:=by trivial
theorem z1Q:R! [c8!,aB!,"deal",ha!,"divided"] dq! z6E:=by trivial
theorem zeJ:R! [aB!,kF!,iQ!] [aB!,kF!,iQ!] z8f:=by trivial
theorem xx:R! [fS!,dW!,pp!,pq!,"_law_whole_here",jw!,gf!,eQ!] [fS!,dW!] z21:=by trivial
theorem wU:R! [fd!,pr!,eQ!,"_law_odd_here",iR!] [fd!,pr!] z4f:=by trivial
theorem z5J:R! cY! cY! z5A:=by trivial
theorem z2F:R! cY! cY! z2u:=by trivial
theorem z26:R! [aB!,"divisor",iQ!] hX! zaq:=by trivial
theorem zbh:R! hX! hX! z3U:=by trivial
theorem z9K:R! mP! mP! z2h:=by trivial
theorem z9L:R! [eq!] [eq!] z2U:=by trivial
theorem uN:R! dq! dq! uP:=by trivial
theorem ji:R! [eq!,ok!,lB!] [eq!] z1i:=by trivial
theorem wR:R! [mh!,nj!,"products",eq!] [mh!,nj!] qC:=by trivial
theorem zbt:R! dq! dq! z4t:=by trivial
theorem z7v:R! [aB!,kF!] [aB!,kF!] z1g:=by trivial
theorem zci:R! [c8!,aB!,ha!,qO!,"left"] dq! zg5:=by trivial
theorem z2n:R! [c8!,aB!,ha!,qO!] dq! z2v:=by trivial
theorem zkC:R! [c8!,aB!,"lots"] dq! zlr:=by trivial
theorem za5:R! dq! dq! z3Z:=by trivial
theorem z1E:R! [c8!,aB!,nj!] dq! z1h:=by trivial
theorem z7H:R! dq! dq! z1a:=by trivial
theorem z9v:R! dq! dq! z2T:=by trivial
theorem zf6:R! dq! dq! z87:=by trivial
theorem z40:R! ["_law_way",ed!,dV!,pA!] ["_law_way",ed!,dV!] z3N:=by trivial
theorem qS:R! [lC!,pl!,fd!,dW!,fS!,kI!,"_law_turn",if!,pr!,lE!,"_law_bad",hL!,mi!,"_law_none"] [lC!] z7X:=by trivial
end
section
variable {P:Program}{w:World}{K:W.Frag}{mg:Str->aS!}{base:Heap}[T:Txt P w K mg]
local macro_rules | `(tactic| trivial)=>`(tactic| (intro _ _ _ _ _ _;first | (apply us0;exact rfl) | (apply us1;intro _;exact rfl) | (apply us2;intro _ _;exact rfl) | (apply us3;intro _ _ _;exact rfl)))
instance zlA:af! "is_whole" 1 Pg.z18:= f9! 0 zcI (fz! (le! (h1! (by decide) zba (by rfl) (by rfl) T.f7 P!) (zpe (h1! (by decide) z6H (by rfl) (by rfl) T.f5 P!)))) (by trivial)
instance zlq:af! "has_size" 1 Pg.yR:= f9! 1 zcW (fz! (le! (h1! (by decide) zZ (by rfl) (by rfl) pB! P!) (zn8 zu0 zu0 (zux (by rfl) T.f0) (zE vc (by rfl) T.f9 yV bJ! (he:=(zr ..))) (zux (by rfl) T.f1)))) (by trivial)
instance zfh:af! "common_of_two" 1 Pg.vp:= cf! 2 kH (have hu:=hr.units;(bR! (z6i _F (e3! G! zp) (zn (zqx 0 1 hc kH.nd (aN G! (aB (zD zcu P! G!) zg))))) P!)) (by trivial)
instance zlO:af! "together" 1 Pg.xQ:= cf! 3 zcl (fz! (zE (zqd (by exact hc)) (by rfl) T.f16 zkZ (cO! (bb! mP! i9! (by exact hc) (mI! (by rfl) (ky! 0)) (xz 0 1 (by exact hc) zsm) (xw 0 1 (by decide) (by rfl) (by rfl)) yd (zD uy P! G!))) (he:=(zH ..)))) (by trivial)
instance zhB:af! "like_places" 1 Pg.xH:= cf! 4 z1u (have hu:=hr.units;(bR! (zR 1 z1u.nd (z6N (by exact hc) (by rfl) T.f10 (by rfl) rF! bJ!)) (yr yU (by rfl) T.f17 zZ (cO! (bb! [lB!,ec!] b9! (by exact hc) (wA G!) (zS (i:=1) ztu (by rfl) (by first | exact bB! | exact bN!)) (zM 1 (by rfl)) yd (yr yU (by rfl) T.f17 zZ (cO! (bb! [ec!,lA!] b9! (by exact hc) jc! (zS (i:=1) ztV (by rfl) (by first | exact bB! | exact bN!)) (zM 1 (by rfl)) yd (zqY (yc eh! P! G!) zp zp))) (he:=(zH ..))))) (he:=(zH ..))))) (by trivial)
instance zim:af! "columns_of" 1 Pg.yQ:= cf! 5 z98 (fz! (yr yU (by rfl) T.f17 zZ (cO! (bb! [eq!,"at"] (ag! 0) (by exact hc) (hm! (by rfl) (cP! (zE vc (by rfl) T.f9 yV bJ! (he:=(zr ..))))) (zS (i:=1) zsv (by rfl) (by first | exact bB! | exact bN!)) (zM 1 (by rfl)) yd (yr yU (by rfl) T.f17 zZ (cO! (bb! ["at",ec!] b9! (by exact hc) jc! (zS (i:=1) zs4 (by rfl) (by first | exact bB! | exact bN!)) (zM 1 (by rfl)) yd (h4! P!))) (he:=(zH ..))))) (he:=(zH ..)))) (by trivial)
instance zm5:af! "without" 1 Pg.xK:= cf! 6 z8o (bR! (zR 3 z8o.nd (bK! (yK P! xL (xu G!)) (yK P! (xu (kw! G!)) xL))) (yr yU (by rfl) T.f17 zZ (cO! (bb! [qK!,ec!] (ag! 2) (by exact hc) (wA (zc 3)) (zS (i:=1) ztD (by rfl) (by first | exact bB! | exact bN!)) (zM 1 (by rfl)) yd (bK! (yK G! xL (xu P!)) (yK G! (xu (kw! P!)) xL)))) (he:=(zH ..)))) (by trivial)
instance zne:af! "sign_at" 1 Pg.wd:= f9! 7 zeB (have hu:=hr.units;(fz! (zqY (yc eh! (zD zcu (bK! P! G!) zp) zp) zp ks!))) (by trivial)
instance z9x:af! "greatest_and_others" 1 Pg.zV:= cf! 8 vI (bR! (zR 1 vI.nd (zcR P! (zE (z3V (by exact hc)) (by rfl) T.f11 z29 bJ! (he:=(zr ..))))) (wx (aN G! (aB (bK! (bK! (yK P! xL (xu G!)) (wx fi!)) (yK P! (xu (kw! G!)) xL)) zg)))) (by trivial)
instance zhM:af! "least_place" 1 Pg.xc:= cf! 9 z7m (have hu:=hr.units;(fz! (zcR P! (zE (zkN (by exact hc)) (by rfl) T.f12 zhg (cO! (bb! [iQ!] [a!] (by exact hc) jc! (zS (i:=0) zop (by rfl) (by first | exact bB! | exact bN!)) (zM 0 (by rfl)) (wN (e3! P! zp)) P!)) (he:=(zH ..)))))) (by trivial)
instance zo8:af! "all_but" 1 Pg.uA:= cf! 10 zeP (have hu:=hr.units;(fz! (bb! [qL!,"at"] b9! (by exact hc) (hm! (by rfl) (cP! (zE vc (by rfl) T.f9 yV bJ! (he:=(zr ..))))) (zS (i:=1) zsx (by rfl) (by first | exact bB! | exact bN!)) (zM 1 (by rfl)) (wN (e3! G! P!)) G!))) (by trivial)
instance znm:af! "is_rule" 1 Pg.vm:= f9! 11 zey (fz! (le! (h1! (by decide) zlb (by rfl) (by rfl) T.f15 P!) (znt T.T_RULES (by rfl) P!))) (by trivial)
instance zpy:af! "moved" 1 Pg.jO:= f9! 12 zj1 (have hu:=hr.units;(fz! (zqY (yc eh! P! xD) (bK! (yK G! (xu zp) xL) (yK G! xL (xu zp))) G!))) (by trivial)
instance zfv:af! "_law_cell_at" 1 Pg.ug:= f9! 13 z66 (bR! (dx! (yc zuu G! (zE vc (by rfl) T.f9 yV bJ! (he:=(zr ..)))) (zQ (xI P! G!))) zp) (by trivial)
instance zlE:af! "_law_pot" 1 Pg.z0W:= cf! 14 vS (cA! (dx! (yc ztl P! (zD zeU zp zp)) (zQ (z7L (aB (zD z6C P! (zD zeU zp zp)) zg)))) (zR 1 vS.nd zp) (bR! (ku _F hc (hm! (by rfl) fi!) (uC 2 vS.nd) (cA! (zR 3 vS.nd (zD zcu (zD uy (kw! (bK! (zD zcu P! zp) (zD uy zp aN!))) zp) zp)) (zR 3 vS.nd (zD zcu (kw! (bK! (zD uy (zc 3) (zc 3)) (zD uy zp aN!))) zp)) (zn (zR 1 vS.nd (bK! (zD uy G! zp) (zc 3)))))) (z7L a1!))) (by trivial)
instance ziE:af! "_law_take" 1 Pg.zB:= f9! 15 z3W (zh (zR 2 z3W.nd (zD zcu (f7! P!) G!)) (bR! (z0G (zD zhl (f7! P!) G!) P! zp) aN!)) (by trivial)
instance zid:af! "_law_rules" 1 Pg.qT:= f9! 16 z9u (fz! (vN (kX! (kX! zg)))) (by trivial)
instance zjK:af! "_law_step" 1 Pg.z1l:= (cf! 17 zO (have hu:=hr.units;(zh (k2! 2 (zE vc (by rfl) T.f9 yV a1! (he:=(zr ..)))) (cA! (k2! 3 (zE ziH (by rfl) T.f14 za3 (cO! (bb! [er!,cv!] i9! (by exact hc) (zbu (by rfl) T.f6 a1!) (xz 0 1 (by exact hc) zu2) (xw 0 1 (by decide) (by rfl) (by rfl)) (wN (yc zoj G! zp)) (wx (aN G! bJ!)))) (he:=(zH ..)))) (k2! 4 (f7! (bb! [dW!,er!] b9! (by exact hc) (hm! (by rfl) (aZ! 2)) (zS (i:=1) zuO (by rfl) (by first | exact bB! | exact bN!)) (zM 1 (by rfl)) (wN (yc eh! (xI P! G!) (zE (z3V (by exact hc)) (by rfl) T.f11 z29 bJ! (he:=(zr ..))))) G!))) (cA! (k2! 5 (zq6 (by decide) (f7! (f7! (zc 3))) zp P!)) (dx! (yc eh! P! xD) (k2! 5 (f7! (bb! [nk!,cv!,er!] (dI! 4) (by exact hc) (wA (zc 3)) (xz 1 2 (by exact hc) zuj) (xw 1 2 (by decide) (by rfl) (by rfl)) (wN (e3! aN! P!)) aN!)))) (cA! (z03 (yc eh! P! xD) (zh (k2! 6 (zE (z3V (by exact hc)) (by rfl) T.f11 z29 (cO! (bb! [nk!,cv!,er!] (dI! 4) (by exact hc) (wA (zc 3)) (xz 1 2 (by exact hc) zuj) (xw 1 2 (by decide) (by rfl) (by rfl)) (wN (e3! aN! P!)) G!)) (he:=(zH ..)))) (zn (k2! 5 (f7! (bb! [qR!,nk!,dW!,er!] (hy! 6 4 1) (by exact hc) (hm! (by rfl) (aZ! 2)) (zS (i:=3) zuT (by rfl) (by first | exact bB! | exact bN!)) (zM 3 (by rfl)) (wN (RW.rt (w_and (yc eh! (hw! (zc 3)) P!) (zgD (e3! (zc 3) G!))))) (zc 3)))))) yD) (zcd 7 [om!,er!] (ag! 5) rG! hc (hm! (by rfl) (aZ! 2)) (fv! (zS (i:=1) zvj (by rfl) (by first | exact bB! | exact bN!))) (zM 1 (by rfl)) (fv! (wN (e3! G! P!))) (fv! G!)) (cA! (dx! (yc zul P! (wx (kX! zg))) (k2! 7 (vN (aZ! 4)))) (k2! 8 (zD zoT (z7L fi!) aN!)) (cA! (ku _F hc (wA (zc 7)) (uC 9 rG!) (zn (dx! (yc zoj (h4! (zc 5)) zp) (z0G (zD zhl (h4! (zc 9)) (h4! (zc 5))) (zc 8) (zc 9))))) (zcd 10 [qS!,dW!,om!,er!,cv!] [b! 8,b! 1,b! 5,a!,a!] rG! hc (zbu (by rfl) T.f6 a1!) (fv! (xz 3 4 (by exact hc) zvg)) (xw 3 4 (by decide) (by rfl) (by rfl)) (fv! yd) (fv! (zD z6C (zc 4) (zD uy (xI P! (zc 3)) (h4! aN!))))) (cA! (k2! 11 (z7L zg)) (ku _F hc (hm! (by rfl) (aZ! 2)) (uC 9 rG!) (zh (znx 12 [er!,"_law_column"] (ag! 9) rG! hc (hm! (by rfl) (aZ! 2)) (fv! (zS (i:=1) zrp (by rfl) (by first | exact bB! | exact bN!))) (zM 1 (by rfl)) (fv! yd) (fv! (yr zmN (by rfl) T.f7 zba (aM (uw eh! P! G!) zg) (he:=(z54 ..))))) (cA! (z0G (bK! (xI (zc 12) (zc 5)) (xI (zc 8) (zc 9))) (zc 12) (zc 5)) (dx! (yc eh! P! xD) (k2! 12 (bK! (yK (zc 12) (xu zp) xL) (yK (zc 12) xL (xu zp))))) (zn (wI (kz (zc 11) (yr yU (by rfl) T.f17 zZ (aZ! 12) (he:=(zr ..))))))))) (bR! (dx! (yc eh! P! xD) (k2! 10 (bK! (yK (zc 10) (xu zp) xL) (yK (zc 10) xL (xu zp))))) (wx (aQ (yr yU (by rfl) T.f17 zZ (aZ! 10) (he:=(zr ..))) (cP! (yr yU (by rfl) T.f17 zZ (aZ! 11) (he:=(zr ..))))))))))))))) (by trivial)).tidy
instance ziq:af! "_law_ended" 1 Pg.xt:= cf! 18 z8S (have hu:=hr.units;(fz! (uw eh! (zE vc (by rfl) T.f9 yV (cO! (bb! [cv!] [a!] (by exact hc) jc! (zS (i:=0) ztQ (by rfl) (by first | exact bB! | exact bN!)) (zM 0 (by rfl)) (wN (yc zoj P! zp)) P!)) (he:=(zH ..))) zp))) (by trivial)
instance zih:af! "_law_plain" 1 Pg.xr:= cf! 19 z9s (have hu:=hr.units;(fz! (yr yU (by rfl) T.f17 zZ (cO! (bb! [fR!,gg!] (ag! 0) (by exact hc) (hm! (by rfl) bJ!) (zS (i:=1) zuz (by rfl) (by first | exact bB! | exact bN!)) (zM 1 (by rfl)) yd (yr yU (by rfl) T.f17 zZ (cO! (bb! [gg!,"_law_column"] b9! (by exact hc) (hm! (by rfl) bJ!) (zS (i:=1) zuF (by rfl) (by first | exact bB! | exact bN!)) (zM 1 (by rfl)) yd (yr zmN (by rfl) T.f7 zba (aM (uw eh! P! G!) zg) (he:=(z54 ..))))) (he:=(zH ..))))) (he:=(zH ..))))) (by trivial)
instance zli:af! "_law_led" 1 Pg.z85:= (cf! 20 vT (zh (zR 2 vT.nd (z7L zg)) (bR! (ku _F hc jc! (uC 3 vT.nd) (cA! (zR 4 vT.nd zp) (ku _F hc (mI! (by rfl) (ky! 3)) (z2b 5 6 hc vT.nd) (zn (zR 4 vT.nd (bK! (zc 4) (zD uy (zc 5) (zc 6)))))) (zn (wI (kz aN! (zc 4)))))) (yr yU (by rfl) T.f17 zZ (aZ! 2) (he:=(zr ..))))) (by trivial)).tidy
instance zls:af! "_law_dot" 1 Pg.vO:= cf! 21 kD (zh (zR 2 kD.nd zp) (bR! (ku _F hc (mI! (by rfl) (ky! 0)) (z2b 3 4 hc kD.nd) (zn (zR 2 kD.nd (bK! aN! (zD uy (zc 3) (zc 4)))))) aN!)) (by trivial)
instance zif:af! "_law_whole" 1 Pg.wj:= f9! 22 z9k (fz! (le! (h1! (by decide) zba (by rfl) (by rfl) T.f7 P!) (zpe (h1! (by decide) z6H (by rfl) (by rfl) T.f5 P!)))) (by trivial)
instance zl9:af! "_law_gcd" 1 Pg.qa:= cf! 23 qd (have hu:=hr.units;(zh (zR 1 qd.nd zp) (bR! (ku _F hc jc! (uC 2 qd.nd) (zh (zR 3 qd.nd aN!) (zn (z6i _F (e3! (zc 3) zp) (zn (zqx 1 3 hc qd.nd (kM! 3 (aB (zD zcu G! (zc 3)) zg)))))))) G!))) (by trivial)
instance zfr:HsH P w K mg O! CX0 "_law_kind_of" 1 wG:= zov (hd! 24) yB (λhr=> have hu:=hr.units;(zh (zR 1 pC! (vN (aQ (h5! (by decide) (by rfl) (by rfl)) (aQ (h5! (by decide) (by rfl) (by rfl)) (aQ (h5! (by decide) (by rfl) (by rfl)) (cP! (h5! (by decide) (by rfl) (by rfl)))))))) (cA! (zR 1 pC! (bK! G! (vN (aQ (h5! (by decide) (by rfl) (by rfl)) (aQ (h5! (by decide) (by rfl) (by rfl)) (aQ (h5! (by decide) (by rfl) (by rfl)) (cP! (h5! (by decide) (by rfl) (by rfl))))))))) (zR 1 pC! (bK! G! (vN (aQ (h5! (by decide) (by rfl) (by rfl)) (aQ (h5! (by decide) (by rfl) (by rfl)) (aQ (h5! (by decide) (by rfl) (by rfl)) (cP! (h5! (by decide) (by rfl) (by rfl))))))))) (cA! (zR 1 pC! (bK! G! (vN (aQ (h5! (by decide) (by rfl) (by rfl)) (aQ (h5! (by decide) (by rfl) (by rfl)) (aQ (h5! (by decide) (by rfl) (by rfl)) (cP! (h5! (by decide) (by rfl) (by rfl))))))))) (zR 1 pC! (bK! G! (vN (cP! (h5! (by decide) (by rfl) (by rfl)))))) (cA! (dx! (o0! (e3! (ziu G! z9X) zp) (zaQ (hu! (zru T.FM (by rfl) T.f8 (by rfl) T.f2 P!)))) (zQ xD)) (zR 2 pC! (vN (aK xD (kX! (kX! (kX! (kX! zg))))))) (bR! (zR 2 pC! (bK! aN! (vN (kX! (kX! (kX! (kX! zg))))))) (hw! (zjR G! z9X)))))))) (by trivial)
instance zii:af! "are_wholes" 2 Pg.ya:= cf! 25 z9g (have hu:=hr.units;(bR! (dx! (o0! (hu! (h1! (by decide) zZ (by rfl) (by rfl) pB! P!)) (zaQ (e3! (zE vc (by rfl) T.f9 yV bJ! (he:=(zr ..))) G!))) (zQ z9X)) (zE (zjs (by exact hc)) (by rfl) T.f4 zdf (cO! (bb! ["part"] [a!] (by exact hc) jc! (zS (i:=0) zsy (by rfl) (by first | exact bB! | exact bN!)) (zM 0 (by rfl)) yd hY!)) (he:=(zH ..))))) (by trivial)
instance zgp:af! "lines_times" 2 Pg.xC:= cf! 26 z7M (fz! (yr yU (by rfl) T.f17 zZ (cO! (bb! [kG!,ec!] b9! (by exact hc) jc! (zS (i:=1) zsz (by rfl) (by first | exact bB! | exact bN!)) (zM 1 (by rfl)) yd (eS! 1 bJ!))) (he:=(zH ..)))) (by trivial)
theorem uj(k:Nat) (Hr:af! "number_of" (k+1) (Pg.yC k)):af! "number_of" (k+1+1) (Pg.yC (k+1)):= cf! 27 zbM (have hu:=hr.units;(bR! (dx! (yc eh! (zE vc (by rfl) T.f9 yV bJ! (he:=(zr ..))) zp) (zQ (f7! (f7! P!)))) (zE (zqd (by exact hc)) (by rfl) T.f16 zkZ (cO! (bb! [jv!,lA!,iQ!] (dI! 0) (by exact hc) (zbu (by rfl) T.f6 (aS (f7! P!) zg)) (xz 1 2 (by exact hc) zsi) (xw 1 2 (by decide) (by rfl) (by rfl)) yd (zD uy (zD uy (iT! (go! a1!)) aN!) (r_k hr (cP! (cs! (go! a1!))) (he:=(xJ ..)))))) (he:=(zH ..))))) (by trivial)
instance zjg:af! "number_of" 5 Pg.xy:= uj 3 (uj 2 (uj 1 (uj 0 (zpG (ps:=[jv!]) (hd! 27) (by trivial) 1))))
instance zmf:af! mZ! 2 Pg.qm:= cf! 28 z8c (bR! (zc0 hY! (z2b 1 2 hc z8c.nd)) (wx (aQ (zcR aN! (zE (z3V (by exact hc)) (by rfl) T.f11 z29 (aZ! 2) (he:=(zr ..)))) (aL (vN a1!) zg)))) (by trivial)
instance zkF:af! m0! 2 Pg.vQ:= cf! 29 z6B (bR! (zc0 hY! (z2b 1 2 hc z6B.nd)) (wx (aQ (eS! 2 zg) (aL (vN a1!) zg)))) (by trivial)
instance zoh:af! m1! 2 Pg.kg:= f9! 30 zaF (bR! (zR 1 zaF.nd hY!) (wx (aN G! (cP! (cs! a1!))))) (by trivial)
instance zmz:af! m2! 2 Pg.qr:= f9! 31 zf5 (have hu:=hr.units;(bR! (dx! (yc eh! (f7! P!) zp) (zQ (wx (go! (aL (vN zg) zg))))) (wx (go! (cP! (cs! fi!)))))) (by trivial)
instance zin:gk! P w K mg dM! "want_rule" 2 Pg.vY:= qB (hd! 32) z4i (os! (zn (dx! (hu! (rn! zeK bJ!)) (z8L T.E_NoRule z5c hc (by rfl))))) (by trivial)
instance zkb:af! "want_rule" 2 Pg.vX:= f9! 32 z4i (zn (dx! (hu! hY!) z5L)) (by trivial)
instance zkx:af! "_law_lot" 2 Pg.z13:= (cf! 33 wb (have hu:=hr.units;(cA! (zR 1 pD! (bK! zp (cs! fi!))) (zR 2 pD! (xI (vN (go! (go! (aB (zD zeU zp zp) (aB (zD zeU zp zp) mR!))))) (cs! fi!))) (cA! (zR 3 pD! (cs! fi!)) (zR 4 pD! (z7L zg)) (cA! (ku _F hc (hm! (by rfl) a1!) (uC 5 pD!) (zh (zR 6 pD! (kw! (cs! (aZ! 2)))) (zn (wI (kz (zc 4) (zD uy (zc 6) (yr zmN (by rfl) T.f7 zba (aM (uw ztl (cs! fi!) (zc 3)) zg) (he:=(z54 ..))))))))) (dx! (yc eh! (zE (z3V (by exact hc)) (by rfl) T.f11 z29 (aZ! 4) (he:=(zr ..))) zp) (z0G (bK! zp (cs! (aZ! 2))) (zc 4) (cs! a1!))) (cA! (zR 7 pD! (bK! zp (cs! fi!))) (dx! (yc eh! (cs! fi!) zp) (z0G (xI (zc 4) (cs! a1!)) (zc 4) (cs! a1!))) (bR! (dx! (yc eh! (zE (z3V (by exact hc)) (by rfl) T.f11 z29 (aZ! 4) (he:=(zr ..))) zp) (z0G zp (zc 4) zp)) (yr yU (by rfl) T.f17 zZ (cO! (bb! [lE!,cv!] (ag! 7) (by exact hc) (wA (zc 4)) (zS (i:=1) ztO (by rfl) (by first | exact bB! | exact bN!)) (zM 1 (by rfl)) yd (zD uy G! P!))) (he:=(zH ..))))))))) (by trivial)).tidy
instance zlm:af! "_law_run" 2 Pg.km:= cf! 34 jQ (cA! (zR 2 jQ.nd (z7L a1!)) (zR 3 jQ.nd (z7L zg)) (bR! (z6i _F (hu! (r_k hr (aS (hw! ks!) zg) (he:=(z10 ..)))) (cA! (zc0 (cs! (aS (hw! ks!) zg)) (z2b 4 5 hc jQ.nd)) (wI (kz aN! (zc 4))) (zn (wI (kz (zc 3) (zc 5)))))) (wx (kM! 2 (aZ! 3))))) (by trivial)
instance zfn:af! "_law_product" 2 Pg.jk:= cf! 35 qo (zh (zR 2 qo.nd (zE vc (by rfl) T.f9 yV bJ! (he:=(zr ..)))) (bR! (zR 3 qo.nd (bb! [ed!,dV!,eQ!] (fm! 0 1) (by exact hc) (hm! (by rfl) (aZ! 2)) (zS (i:=2) ztf (by rfl) (by first | exact bB! | exact bN!)) (zM 2 (by rfl)) yd (cs! (cO! (bb! [eQ!,gg!] (ag! 2) (by exact hc) (wA G!) (zS (i:=1) zor (by rfl) (by first | exact bB! | exact bN!)) (zM 1 (by rfl)) yd (h4! P!)))))) (yr yU (by rfl) T.f17 zZ (cO! (bb! [qQ!,eQ!] (ag! 3) (by exact hc) (hm! (by rfl) (aZ! 2)) (zS (i:=1) zrZ (by rfl) (by first | exact bB! | exact bN!)) (zM 1 (by rfl)) yd (yr yU (by rfl) T.f17 zZ (cO! (bb! [eQ!,"_law_side"] b9! (by exact hc) jc! (zS (i:=1) ztT (by rfl) (by first | exact bB! | exact bN!)) (zM 1 (by rfl)) yd (h4! P!))) (he:=(zH ..))))) (he:=(zH ..))))) (by trivial)
instance ziX:af! "_law_back" 2 qw:= (cf! 36 yo (have hu:=hr.units;(zh (zR 1 kL! (zE vc (by rfl) T.f9 yV bJ! (he:=(zr ..)))) (cA! (zR 2 kL! (zel [gg!,ol!] i9! (by exact hc) (mI! (by rfl) (aN P! (cP! (iT! a1!)))) (fv! (xz 0 1 (by exact hc) ztk)) (xw 0 1 (by decide) (by rfl) (by rfl)) (fv! yd) (fv! (bK! (yr zge (by rfl) T.f10 z36 bJ! (he:=(zr ..))) (yr zge (by rfl) T.f10 z36 a1! (he:=(zr ..))))))) (ku _F hc (hm! (by rfl) a1!) (uC 3 kL!) (zn (z6i _F (e3! (bb! [eQ!,gg!] (ag! 3) (by exact hc) (wA (yK aN! (xu (kw! (zc 3))) xL)) (zS (i:=1) zor (by rfl) (by first | exact bB! | exact bN!)) (zM 1 (by rfl)) (wN (e3! (h4! P!) zp)) G!) (vN zg)) (zh (zcd 4 [eQ!,kI!,cv!] (fm! 3 2) kL! hc (zdH (by rfl) rF! (ky! 3)) (fv! (zS (i:=2) znB (by rfl) (by first | exact bB! | exact bN!))) (zM 2 (by rfl)) (fv! (wN (e3! (xI (h4! aN!) P!) zp))) (fv! aN!)) (cA! (zR 5 kL! (f7! (f7! (zE znQ (by rfl) T.f14 za3 (cO! (bb! [eQ!,kI!,cv!] (fm! 3 2) (by exact hc) (wA (zc 4)) (zS (i:=2) znB (by rfl) (by first | exact bB! | exact bN!)) (zM 2 (by rfl)) yd (wx (aQ (zE ztH (by rfl) T.f3 zoG (aS (xI (h4! aN!) P!) zg) (he:=(z10 ..))) (aZ! 2))))) (he:=(zH ..)))))) (zR 6 kL! (hw! (zc 5))) (cA! (z0G (hw! (zc 3)) aN! (zc 5)) (z0G (zc 6) aN! (zc 3)) (zn (ku _F hc (zdH (by rfl) rF! (aB (kw! (zc 3)) a1!)) (uC 7 kL!) (zh (zR 8 kL! (zD znU (xI (hw! (zc 7)) (zc 3)) (xI (zc 6) (zc 3)))) (zn (z0G (bb! [if!,qP!,ol!] (dI! 8) (by exact hc) (mI! (by rfl) (kM! 6 (aS (hw! (zc 7)) zg))) (xz 1 2 (by exact hc) zp6) (xw 1 2 (by decide) (by rfl) (by rfl)) yd (zD z6C aN! (zD zhG P! G!))) aN! (zc 7)))))))))))) (bR! (ku _F hc (zpA (by rfl) rF! (aB (zD z6C G! zp) (aU ks! (aU ks! zg)))) (uC 3 kL!) (zh (z0G (bb! [eQ!,kI!,cv!] (fm! 3 2) (by exact hc) (wA (hw! (zc 3))) (zS (i:=2) znB (by rfl) (by first | exact bB! | exact bN!)) (zM 2 (by rfl)) yd (zD zhG aN! (xI (h4! P!) P!))) aN! (zc 3)) (zn (ku _F hc (hm! (by rfl) (aZ! 3)) (uC 7 kL!) (cA! (zR 6 kL! (hw! (zc 3))) (zR 8 kL! (xI (hw! (zc 7)) (zc 3))) (zn (z0G (bb! [if!,qP!,ol!] (dI! 8) (by exact hc) (mI! (by rfl) (kM! 6 (aS (hw! (zc 7)) zg))) (xz 1 2 (by exact hc) zp6) (xw 1 2 (by decide) (by rfl) (by rfl)) yd (zD z6C aN! (zD zhG P! G!))) aN! (zc 7)))))))) (yr yU (by rfl) T.f17 zZ (cO! (bb! [fR!,gg!] b9! (by exact hc) (wA aN!) (zS (i:=1) zuz (by rfl) (by first | exact bB! | exact bN!)) (zM 1 (by rfl)) yd (yr yU (by rfl) T.f17 zZ (aS (yK G! (xu P!) xL) zg) (he:=(z10 ..))))) (he:=(zH ..))))))) (by trivial)).tidy
instance ze6:af! "_law_are_whole" 2 Pg.yw:= cf! 37 z3c (have hu:=hr.units;(fz! (z3w (h1! (by decide) zZ (by rfl) (by rfl) pB! P!) (le! (uw eh! (zE vc (by rfl) T.f9 yV bJ! (he:=(zr ..))) G!) (zE (zjs (by exact hc)) (by rfl) T.f4 zdf (cO! (bb! [ed!] [a!] (by exact hc) jc! (zS (i:=0) zsU (by rfl) (by first | exact bB! | exact bN!)) (zM 0 (by rfl)) yd hY!)) (he:=(zH ..))))))) (by trivial)
instance zfp:af! "_law_no_rule" 2 Pg.um:= f9! 38 z0u (bR! (zR 2 z0u.nd (vN (aQ (zm7 G!) (aB (zD zkG G! xD) (aS (ziS G! (xu zp)) (aB (zD zkG G! xD) (aK xD (aK zk9 (go! (aT (wx a1!) (aL (vN a1!) (aK z9X (qO zoA zg (by rfl)))))))))))))) (hw! (cs! fi!))) (by trivial)
instance zh8:af! "_law_is_lot" 2 Pg.yz:= cf! 39 z1e (zh (dx! (o0! (hu! (h1! (by decide) zZ (by rfl) (by rfl) pB! P!)) (zaQ (yc zmV (zE vc (by rfl) T.f9 yV bJ! (he:=(zr ..))) (wx (go! mR!))))) (zQ z9X)) (bR! (ku _F hc jc! (uC 1 z1e.nd) (zn (dx! (o0! (hu! (iT! a1!)) (zaQ (yc zuu G! zp))) (zQ z9X)))) (uw zoj (zE (z3V (by exact hc)) (by rfl) T.f11 z29 bJ! (he:=(zr ..))) zp))) (by trivial)
instance zlp:af! "_law_odd" 2 Pg.vK:= f9! 40 z69 (bR! (by refine zR (i:=1) (hN:=?_) (he:=?_) (hi:=?_) (hx:=?_) (hs:=?_) (hf:=?_);exact z69.nd;exact (vN (aK zk9 (aK z9X (aK z9X (aU ks! (go! (go! (aB (zD zeU zp zp) (kX! (aT (wx zg) (aT (wx mR!) (aT (wx fi!) (aL (vN mR!) (qO zoA zg (by rfl)))))))))))))));rfl;(first | exact bB! | exact bN!);rfl;(first | exact cZ! | exact Q! rfl | assumption)) (xI (bK! G! (vN (aT (wx (aT (wx mR!) (aT (wx mR!) zg))) (aT (wx (aK z9X fi!)) zg)))) (cs! fi!))) (by trivial)
theorem wD(k:Nat) (Hr:af! "_law_same" (k+1) (Pg.zG k)):af! "_law_same" (k+1+1) (Pg.zG (k+1)):= cf! 41 zbS (have hu:=hr.units;(zh (z03 (qG (zsw (by decide) (by decide) z36 zZ (by rfl) T.f8 (by rfl) T.f10 (by rfl) pB! G!)) (bR! (dx! (o0! (e3! (h1! (by decide) z36 (by rfl) (by rfl) T.f10 G!) (h1! (by decide) z36 (by rfl) (by rfl) T.f10 P!)) (zaQ (e3! (h1! (by decide) zZ (by rfl) (by rfl) pB! G!) (h1! (by decide) zZ (by rfl) (by rfl) pB! P!)))) (zQ z9X)) (le! (uw eh! (zE vc (by rfl) T.f9 yV bJ! (he:=(zr ..))) (zE vc (by rfl) T.f9 yV a1! (he:=(zr ..)))) (zE (zjs (by exact hc)) (by rfl) T.f4 zdf (cO! (bb! [ed!,dV!] i9! (by exact hc) (mI! (by rfl) (ky! 0)) (xz 0 1 (by exact hc) zta) (xw 0 1 (by decide) (by rfl) (by rfl)) yd (cs! a1!))) (he:=(zH ..))))) yD) (bR! (dx! (o0! (yc zu5 G! zk9) (zkc (qG (h1! (by decide) z6H (by rfl) (by rfl) T.f5 G!)) (zaQ (qG (h1! (by decide) zlb (by rfl) (by rfl) T.f15 G!))))) (zQ (le! (uw eh! P! G!) (uw eh! (h1! (by decide) z6H (by rfl) (by rfl) T.f5 P!) (h1! (by decide) z6H (by rfl) (by rfl) T.f5 G!))))) (le! hY! (uw eh! P! G!))))) (by trivial)
instance zjj:af! "_law_same" 6 Pg.kh:= wD 4 (wD 3 (wD 2 (wD 1 (wD 0 (zpG (ps:=[gf!,mi!]) (hd! 41) (by trivial) 1)))))
instance zoa:af! "is_lot" 3 Pg.yZ:= cf! 42 zg0 (bR! (dx! (o0! (hu! hY!) (zaQ (hu! (cs! (cP! (zE vc (by rfl) T.f9 yV bJ! (he:=(zr ..)))))))) (zQ z9X)) (le! (uw ztl (zE (zkN (by exact hc)) (by rfl) T.f12 zhg bJ! (he:=(zr ..))) zp) (uw zoj (zE (z3V (by exact hc)) (by rfl) T.f11 z29 bJ! (he:=(zr ..))) zp))) (by trivial)
instance zlM:af! "is_table" 3 Pg.vL:= cf! 43 zcx (bR! (dx! (hu! hY!) (zQ z9X)) (zE (zjs (by exact hc)) (by rfl) T.f4 zdf (cO! (bb! [kF!,ec!] (ag! 0) (by exact hc) jc! (zS (i:=1) zt7 (by rfl) (by first | exact bB! | exact bN!)) (zM 1 (by rfl)) yd (eS! 1 (cP! (zE vc (by rfl) T.f9 yV bJ! (he:=(zr ..))))))) (he:=(zH ..)))) (by trivial)
instance zkv:af! "division" 3 Pg.vb:= cf! 44 z1Q (zh (zR 2 z1Q.nd (zrL T.T_RULES (by rfl) P! (λ_ _=>rfl))) (bR! (zc0 (zns (n:=2) 2 (jH (q7! (hr.has mZ!) (by decide)) (jH (q7! (hr.has m0!) (by decide)) (jH (q7! (hr.has m1!) (by decide)) (jH (q7! (hr.has m2!) (by decide)) zdk)))) (hr.mono (by decide)) zjC a1! (he:=(zr ..))) (z2b 3 4 hc z1Q.nd)) (wx (kM! 3 (cO! (bb! ["divided",aB!,ha!,"at"] (hy! 4 1 3) (by exact hc) (hm! (by rfl) (cP! (zE vc (by rfl) T.f9 yV a1! (he:=(zr ..))))) (zS (i:=3) zs8 (by rfl) (by first | exact bB! | exact bN!)) (zM 3 (by rfl)) yd (zqY (yc zul (zc 3) P!) (zD zhl (h4! (zc 3)) (h4! aN!)) zp))))))) (by trivial)
instance zlX:af! "come_to" 3 Pg.wJ:= f9! 45 zeJ (have hu:=hr.units;(fz! (le! (eS! 1 (cP! (zE vc (by rfl) T.f9 yV bJ! (he:=(zr ..))))) (uw eh! (eS! 1 bJ!) aN!)))) (by trivial)
instance zis:af! "_law_lines" 3 uz:= (cf! 46 xx (have hu:=hr.units;(cA! (zc0 (cs! a1!) (z2b 2 3 hc q8!)) (zR 4 q8! (r_k hr (cP! (zE vc (by rfl) T.f9 yV a1! (he:=(zr ..)))) (he:=(xJ ..)))) (cA! (ku _F hc (wA (zc 3)) (uC 5 q8!) (zn (zR 4 q8! (eS! 4 (aZ! 5))))) (zR 6 q8! (eS! 4 zg)) (bR! (zR 7 q8! (f7! (bb! [er!,cv!] i9! (by exact hc) (zbu (by rfl) T.f6 (aS (hw! ks!) zg)) (xz 0 1 (by exact hc) zu2) (xw 0 1 (by decide) (by rfl) (by rfl)) (wN (yc zoj G! zp)) P!))) (bK! (vN (aS (xI (zc 6) (zc 7)) zg)) (bb! [eQ!,er!,gg!] (dI! 7) (by exact hc) (zbu (by rfl) T.f6 (aZ! 6)) (xz 1 2 (by exact hc) zvf) (xw 1 2 (by decide) (by rfl) (by rfl)) (wN (e3! G! P!)) aN!)))))) (by trivial)).tidy
instance ziN:af! "_law_bent" 3 or!:= f9! 47 wU (cA! (zR 2 wU.nd (cs! (cP! (zE vc (by rfl) T.f9 yV a1! (he:=(zr ..)))))) (zR 3 wU.nd (vN (aB (kw! (h4! aN!)) (aB (zD z6C (h4! aN!) zp) (aB (zD z6C zp (h4! aN!)) (go! (aK z9X (aK zk9 (aK xD (aT (wx fi!) (aB (zD zeU zp zp) (aS (h4! (zD z6C aN! zp)) zg)))))))))))) (cA! (zR 3 wU.nd (xI (zc 3) (cs! fi!))) (zR 4 wU.nd (vN (aB (bK! (bK! (yK G! xL (xu aN!)) (wx (aZ! 3))) (yK G! (xu (kw! aN!)) xL)) (aB (bK! (bK! (yK G! xL (xu aN!)) (wx (aZ! 3))) (yK G! (xu (kw! aN!)) xL)) (aB (bK! (yK G! xL (xu aN!)) (yK G! (xu (kw! aN!)) xL)) (cP! (yr zge (by rfl) T.f10 z36 a1! (he:=(zr ..))))))))) (bR! (zR 4 wU.nd (bK! (zc 4) (vN (aB (bK! (bK! (yK G! xL (xu aN!)) (wx fi!)) (yK G! (xu aN!) xL)) (aS (ztR G!) (aB (bK! G! G!) (aB (zD zqA (wx fi!) (zE vc (by rfl) T.f9 yV a1! (he:=(zr ..)))) (aQ hY! (aT (wx a1!) zg))))))))) (xI (zc 4) (cs! fi!))))) (by trivial)
instance zjx:gk! P w K mg dM! "want_lot" 4 Pg.xN:= qB (hd! 48) z5J (os! (zn (dx! (hu! (rn! zeK bJ!)) (z8L T.E_NoLot z5c hc (by rfl))))) (by trivial)
instance zlQ:af! "want_lot" 4 Pg.xn:= f9! 48 z5J (zn (dx! (hu! hY!) z5L)) (by trivial)
instance zgN:gk! P w K mg dM! "want_table" 4 Pg.z0m:= qB (hd! 49) z2F (os! (zn (dx! (hu! (rn! zeK bJ!)) (z8L T.E_NoTable z5c hc (by rfl))))) (by trivial)
instance zij:af! "want_table" 4 Pg.yF:= f9! 49 z2F (zn (dx! (hu! hY!) z5L)) (by trivial)
instance znu:gk! P w K mg dM! "common" 5 Pg.z5q:= qB (hd! 50) z26 (os! (zh (wI (kq! bJ!)) (cA! (kP (zR 1 z26.nd zp)) (kP (ku _F hc jc! (uC 2 z26.nd) (zn (zR 1 z26.nd (eS! 1 (aZ! 2)))))) (zn (kP (zQ G!)))))) (by trivial)
instance zjz:af! "has_ended" 5 Pg.xB:= cf! 51 zbh (have hu:=hr.units;(bR! (wI hY!) (uw eh! (zE vc (by rfl) T.f9 yV (cO! (bb! [iQ!] [a!] (by exact hc) jc! (zS (i:=0) zop (by rfl) (by first | exact bB! | exact bN!)) (zM 0 (by rfl)) (wN (e3! P! zp)) P!)) (he:=(zH ..))) zp))) (by trivial)
instance zig:af! "multiplied" 5 Pg.wW:= cf! 52 z9K (have hu:=hr.units;(cA! (wI hY!) (wI (iT! a1!)) (bR! (dx! (e3! (zE vc (by rfl) T.f9 yV bJ! (he:=(zr ..))) (zE vc (by rfl) T.f9 yV a1! (he:=(zr ..)))) z5L) (r_k hr (cP! (yr yU (by rfl) T.f17 zZ (cO! (bb! ["one",lA!] (ag! 0) (by exact hc) (wA (iT! a1!)) (zS (i:=1) zsN (by rfl) (by first | exact bB! | exact bN!)) (zM 1 (by rfl)) yd (cs! a1!))) (he:=(zH ..)))) (he:=(xJ ..)))))) (by trivial)
instance zi8:gk! P w K mg dM! "one_number" 6 Pg.z0p:= qB (hd! 53) z9L (λhr _=> (zh (wI (kq! bJ!)) (zn (kP (zQ hY!))))) (by trivial)
instance z9Y:gk! P w K mg dM! "want_rule_and_lot" 5 Pg.zA:= qB (hd! 54) uN (λhr _=> (zh (wI (kq! bJ!)) (zn (wI (kq! a1!))))) (by trivial)
instance zbT:af! "want_rule_and_lot" 5 Pg.zW:= f9! 54 uN (zh (wI hY!) (zn (wI (iT! a1!)))) (by trivial)
instance zfu:gk! P w K mg dM! "turned_back" 7 Pg.uV:= qB (hd! 55) ji (os! (have hu:=hr.units;(zh (zR 1 ji.nd (kq! bJ!)) (cA! (dx! (RW.rt (w_and (e3! G! zp) (zgD (e3! G! ks!)))) (z8L T.E_NotFair z5c hc (by rfl))) (kP (zR 2 ji.nd (z6N (by exact hc) (by rfl) T.f10 (by rfl) rF! (cP! (zE vc (by rfl) T.f9 yV bJ! (he:=(zr ..))))))) (zn (kP (zQ (yr yU (by rfl) T.f17 zZ (cO! (bb! [lB!,ok!,eq!,ec!] (hy! 2 1 0) (by exact hc) (wA aN!) (zS (i:=3) zrm (by rfl) (by first | exact bB! | exact bN!)) (zM 3 (by rfl)) yd (yr yU (by rfl) T.f17 zZ (cO! (bb! [ok!,ec!,eq!,lA!] (hy! 1 3 2) (by exact hc) jc! (zS (i:=3) ztG (by rfl) (by first | exact bB! | exact bN!)) (zM 3 (by rfl)) yd (zD uy (zD uy P! (eS! 1 (aZ! 3))) (r_k hr (cP! (eS! 2 (ky! 3))) (he:=(xJ ..)))))) (he:=(zH ..))))) (he:=(zH ..)))))))))) (by trivial)
instance zas:gk! P w K mg dM! "growing_products" 6 Pg.xY:= qB (hd! 56) wR (os! (cA! (kP (zR 2 wR.nd (z7L (cP! hY!)))) (kP (ku _F hc (wA G!) (uC 3 wR.nd) (zn (wI (kz aN! (r_k hr (aS (hw! ks!) (aZ! 3)) (he:=(z10 ..)))))))) (zn (kP (zQ aN!))))) (by trivial)
instance zks:af! "want_step" 6 Pg.wk:= f9! 57 zbt (zh (wI (cs! a1!)) (zn (dx! (qG (iT! a1!)) z5L))) (by trivial)
instance zft:gk! P w K mg dM! m3! 6 Pg.yO:= qB (hd! 58) z7v (λhr _=> (bR! (wI (kq! bJ!)) (rn! zeK (aN P! (aN G! (cP! (kq! bJ!))))))) (by trivial)
instance zr9:af! "step" 7 Pg.M_step:= cf! 59 zci (cA! (wI (cs! a1!)) (zc0 (cs! a1!) (z2b 2 3 hc zci.nd)) (bR! (zR 4 zci.nd (yr yU (by rfl) T.f17 zZ (cO! (bb! [aB!,ha!,iQ!,"quotient"] (fE! 1 2 a!) (by exact hc) (mI! (by rfl) (aN G! (aZ! 3))) (xz 2 3 (by exact hc) zsB) (xw 2 3 (by decide) (by rfl) (by rfl)) yd (zD z6C aN! (zD uy (zc 3) (xI P! G!))))) (he:=(zH ..)))) (cs! (aZ! 4)))) (by trivial)
instance zic:af! "step_table" 7 Pg.wX:= cf! 60 z2n (zh (wI (cs! a1!)) (bR! (zc0 (cs! a1!) (z2b 2 3 hc z2n.nd)) (yr yU (by rfl) T.f17 zZ (cO! (bb! [c8!,ha!,ec!,"quotient"] (fE! 0 2 a!) (by exact hc) (mI! (by rfl) (aQ (r_k hr (cP! (zE vc (by rfl) T.f9 yV a1! (he:=(zr ..)))) (he:=(xJ ..))) (aZ! 3))) (xz 2 3 (by exact hc) ztW) (xw 2 3 (by decide) (by rfl) (by rfl)) yd (cs! (aB (bK! (bK! (yK aN! xL (xu G!)) (wx (aB (bK! (hw! G!) (zc 3)) zg))) (yK aN! (xu (kw! G!)) xL)) zg)))) (he:=(zH ..))))) (by trivial)
instance zr5:gk! P w K mg dM! "run" 8 Pg.X_run:= qB (hd! 61) zkC (λhr _=> (zh (wI (kq! (ky! 0))) (cA! (kP (zR 2 zkC.nd (z7L a1!))) (kP (z6i _F (hu! (r_k hr (aS (hw! ks!) zg) (he:=(z10 ..)))) (zn (wI (kz aN! (cs! (aS (hw! ks!) zg))))))) (zn (kP (zQ aN!)))))) (by trivial)
instance zir:gk! P w K mg dM! "tables_of" 9 Pg.xF:= qB (hd! 62) za5 (os! (fz! (zel [c8!,"ahead"] (ag! 0) (by exact hc) (wA (yK (zhI (kq! (ky! 0))) xL (xu ks!))) (fv! (zS (i:=1) zs6 (by rfl) (by first | exact bB! | exact bN!))) (zM 1 (by rfl)) (fv! yd) (fv! (rn! zeK (ky! 0)))))) (by trivial)
instance zfq:gk! P w K mg dM! "products_of" 10 Pg.yP:= qB (hd! 63) z1E (λhr _=> (bR! (zR 2 z1E.nd (zhI (kq! (ky! 0)))) (z7N hr z1M (aQ (zE vc (by rfl) T.f9 yV a1! (he:=(zr ..))) (aZ! 2)) (he:=(xJ ..))))) (by trivial)
instance zfm:gk! P w K mg dM! "whole_table" 11 Pg.xb:= qB (hd! 64) z7H (λhr _=> (fz! (xI (zhI (kq! (ky! 0))) ks!))) (by trivial)
instance zgg:gk! P w K mg dM! "lines_back" 12 Pg.yX:= qB (hd! 65) z9v (λhr _=> (fz! (z7N hr z1M (cP! (kq! (ky! 0))) (he:=(xJ ..))))) (by trivial)
instance zlk:gk! P w K mg dM! m4! 13 Pg.vt:= qB (hd! 66) zf6 (os! (have hu:=hr.units;(fz! (f7! (bb! [aB!,ec!] b9! (by exact hc) (wA (kq! (ky! 0))) (zS (i:=1) ztL (by rfl) (by first | exact bB! | exact bN!)) (zM 1 (by rfl)) (wN (e3! (rn! zeK (aN G! bJ!)) zp)) G!))))) (by trivial)
instance zjt:af! "_law_told" 14 zI:= f9! 67 z40 (zn (zsG rfl rfl rfl T.KS (by rfl) z40.nd (by rfl) (by rfl) (λpn xe E1 hp=>(fz! (zo6 (n:=13) (jH (q7! (hr.hasX m4!) (by decide)) (jH (q7! (hr.hasX m3!) (by decide)) zdk)) (hr.mono (by decide)) hp (xI (vN (qO (zqt (hr.hasX m4!) (by rfl)) (qO (zqt (hr.hasX m3!) (by rfl)) zg (zr ..)) (zr ..))) P!) (aN G! (aZ! 2)) (he:=(zr ..))))) (λe pn=>(fz! (znI (hr.hasH "_law_kind_of") (zt6 (hr.r.h.mono (by decide))) zjC (by rfl) (aZ! 3) (he:=(zr ..))))))) (by trivial)
theorem zeq{f:Addr} {fd:FuncData} (F:Fun K "law" "law" z7X f fd):z9e P w K mg O! CX0 15 f fd [lC!] (ziT ⟨mg,K⟩ znn):= zpc F qS rfl λaj A outer s H E hr hc=>by
  have hr:Rm P w K mg O! 14 _:=⟨hr⟩;have hu:=hr.units;refine zh ?_ ?_
  ·refine ku _F hc (hm! (by rfl) (cP! (zE (zqW (by exact hc)) (by rfl) T.f11 z29 (go! (cP! (zE (zpU (by exact hc)) (by rfl) T.f12 zhg (aQ (zE vc (by rfl) T.f9 yV bJ! (he:=(zr ..))) fi!) (he:=(xJ ..))))) (he:=(z8z ..))))) (uC 1 qS.nd) ?_;refine zh ?_ ?_;·exact (mQ! 2 (r_k hr (cP! (cs! a1!)) (he:=(xJ ..))))
   refine zh ?_ ?_;·exact (mQ! 3 (eS! 2 zg))
   refine zh ?_ ?_;·exact (mQ! 4 (xI (zmC (hr.has "_law_rules") (hr.mono (by decide)) zjC (by rfl)) (eS! 2 fi!)))
   refine zh ?_ ?_;·exact (mQ! 5 (eS! 4 (aZ! 3)))
   refine zh ?_ ?_
   ·refine ku _F hc (hm! (by rfl) fi!) (uC 6 qS.nd) ?_;refine zn ?_;refine z03 (hu! (r_k hr (aQ (iT! (go! (kM! 4 (aZ! 3)))) (aS (f7! (zc 5)) zg)) (he:=(xJ ..)))) ?_ ?_
    ·refine zn ?_;exact (zQ z9X)
    ·exact yD
   refine zh ?_ ?_;·exact (mQ! 7 (zD z6C (eS! 2 fi!) zp))
   refine zh ?_ ?_;·exact (mQ! 8 (xI (zc 5) (bK! zp (eS! 2 (aB (zD z6C (zE vc (by rfl) T.f9 yV (aZ! 3) (he:=(zr ..))) zp) zg)))))
   refine zh ?_ ?_;·exact (mQ! 9 (yr yU (by rfl) T.f17 zZ (cO! (bb! [if!,ed!,dV!] (dI! 7) (by exact hc) (mI! (by rfl) (aS (f7! (zc 5)) (aZ! 8))) (xz 1 2 (by exact hc) zvn) (xw 1 2 (by decide) (by rfl) (by rfl)) yd (bK! G! (zD uy P! aN!)))) (he:=(zH ..))))
   refine zh ?_ ?_;·exact (mQ! 10 (eS! 2 (aZ! 3)))
   refine zh ?_ ?_
   ·refine ku _F hc (wA (vN (aS (f7! (zc 5)) (kM! 9 (aQ (eS! 2 (aS (f7! (zc 5)) zg)) (aQ (eS! 2 (aZ! 9)) (aS (f7! (zc 5)) (cP! (eS! 2 zg))))))))) (uC 11 qS.nd) ?_;refine zh ?_ ?_;·exact (mQ! 12 (le! (eS! 11 (cP! (zE vc (by rfl) T.f9 yV (aZ! 3) (he:=(zr ..))))) (uw eh! (eS! 11 (aZ! 3)) (eS! 3 zg))))
    refine zn ?_;refine z03 (hu! (r_k hr (aQ (iT! (go! (kM! 3 (aZ! 11)))) (aZ! 12)) (he:=(xJ ..)))) ?_ ?_
    ·refine zn ?_;exact (zQ z9X)
    ·exact yD
   refine zh ?_ ?_;·exact (mQ! 13 (eS! 2 (aZ! 4)))
   refine zh ?_ ?_
   ·refine z03 (o0! (e3! (iT! (go! (kM! 13 (aZ! 3)))) xD) (zaQ (e3! (iT! (go! (kM! 13 (aZ! 10)))) xD))) ?_ ?_
    ·refine zn ?_;exact (zQ z9X)
    ·exact yD
   refine zn ?_;refine z03 (RW.rt (w_and (hu! (eS! 10 zg)) (zgD (e3! (vN (aQ (iT! (go! (kM! 4 (aZ! 10)))) (cP! (iT! (go! (kM! 10 (aS (f7! (zc 5)) zg))))))) (zD zsX (vN (aK xD zg)) zp))))) ?_ ?_
   ·refine zn ?_;exact (zQ z9X)
   ·exact yD
  refine zn ?_;exact (zQ (le! (uw eh! (iT! (go! (aK xD (aT (wx mR!) zg)))) (wx mR!)) (uw zu5 (iT! (go! (aT (wx mR!) (aT (wx mR!) zg)))) z9X)))
end
end aY
namespace Po
open L2 Dd Pm Pg Pn
theorem zpv:LeM ziy X_run:=rp! (rS! zes) (re! (re! q4!))
theorem zer:LeM xZ xY:=rp! q4! (re! q4!)
theorem zgn:∀ts:List Tb,da! (ts.map tD)
 | []=>rfl | T::ts=>by simp only[_u,flC,flN,zgn ts,Bool.and_true];exact z8u T
section
variable {n m:Nat}{r:Rl}{v:i!}{ls:ff!}{d e:D}{c:Str}{s:Sto}
theorem x_run(r:Rl)(h:e5!)(Rn:f8! v)(hm:m<=hN!)(hl:oW!)(s:Sto):X_run [bE!,az!] s=gs! (s++[pH!]):=zpv.ok (zrF r h Rn hm hl s)
theorem zjw(h:zA [d,e] s=em!):X_run [d,e] s=em!:=by
 simp only[X_run,kX,zgW,st,_h,_l,_v];rw[zh4 (c:=c) (s':=s) (by exact zcC (z5m (x:=d) (y:=e) u! u! h))]
theorem ziV(r:Rl) (h:e5!) (Rn:f8! v) (hm:m<=hN!) (hl:oW!) (s:Sto):xF [bE!,az!] s=gs! (s++[fl!]):=by
 have key:hM! (d=bE!->X_run [d,e] s=gs! (s++[pH!])->xF [d,e] s=gs! (s++[fl!])):=q3! (by
  have st:zv dq! [d,e]=hp!:=rfl;obtain⟨z,hz⟩:∃z,ls=ls.dropLast++[z]:=⟨ls.getLast Rn.ne,(List.dropLast_concat_getLast Rn.ne).symm⟩;have sl:eSl (z4I (cU! X_run)) zC (yt d1!) hp! s=bt! (ls.dropLast.map rD):=by
   rw[zbB,(show z4I (cU! X_run) hp! s=bt! pH! from by rw[z2W,call2 (x:=d) (y:=e) u! u!,he,z9P])];simp only[Rb,jF,z1J,zg4,z0Z,dSl,Dd.listOf];have c:=zjA (ls.dropLast.map rD) (rD z);rw[show ls.dropLast.map rD++[rD z]=pH! from by rw[show [rD z]=bC! [z] from rfl,<- _cr,<- hz]]at c;rw[c]
  have fS:=zia h Rn;have ht:ls.dropLast.map (λa=>tD (jx r a))=fl!:=by simp[zK,_Q]
  have c:=z78 (s:=s) (mp:=ag! 0) (fg:=cj!) (fe:=cU! wX) rD (λa=>tD (jx r a)) (λa=>[k!,b1! a]) ls.dropLast (qN sl) (λa _=>by simp) (λa ha=>by
   rw[hd];exact (zbv r (fS a ha).1 (fS a ha).2 hm s)) (by simp[cap];lia) (by rw[ht];exact zgn _);simp only[xF,kX,kc,st,_h,_l,_v,je,yf];rw[c,ht];rfl)
 exact key _ _ rfl (x_run r h Rn hm hl s)
theorem zc8(h:zA [d,e] s=em!):xF [d,e] s=em!:=by
 have st:zv dq! [d,e]=hp!:=rfl;simp only[xF,kX,kc,st,_h,_l,_v,je,yf,zdi,uJ,jm,zbB,(show z4I (cU! X_run) hp! s=em! from by rw[z2W,z5m (x:=d) (y:=e) u! u! (zjw h)];rfl),R.bind_ex]
theorem zex(r:Rl) (h:e5!) (Rn:f8! v) (hm:m<=hN!) (hl:oW!) (s:Sto):yP [bE!,az!] s=gs! (s++[fX! (z3n bu! jC!)]):=by
 have gr:=zer.ok (zgU r h Rn hm hl s);have key:∀d e t:D,xY [d! n,t] s=gs! (s++[fX! (z3n bu! jC!)])->z4I (cU! xF) (fm! d e) s=j! t->yH [e] s=t! n->yP [d,e] s=gs! (s++[fX! (z3n bu! jC!)]):=λd e t ht h1 h2=>by
  have st:zv [c8!,aB!,nj!] [d,e]=fm! d e:=rfl;simp only[yP,kX,qD,st,_h,_l,_v];rw[zm (ρ':=[k!,z!,b! t]) (s':=s) (by rw[uK,zN,h1];rfl),z00,yf,call2 (by exact h2) (y:=t) (by simp),ht];rfl
 exact key _ _ _ gr (by rw[z2W,call2 (x:=bE!) (y:=az!) u! u!,(ziV r h Rn hm hl s),z9P]) (by simp[yH,zY,h.len])
theorem z9f(h:zA [d,e] s=em!):yP [d,e] s=em!:=by
 have st:zv [c8!,aB!,nj!] [d,e]=fm! d e:=rfl;simp only[yP,kX,qD,st,_h,_l,_v]
 rw[zh4 (c:=c) (s':=s) (by rw[uK,zN,(show z4I (cU! xF) (fm! d e) s=em! from by rw[z2W,z5m (x:=d) (y:=e) u! u! (zc8 h)];rfl)];rfl)]
theorem znZ(r:Rl) (h:e5!) (Rn:f8! v) (hm:m<=hN!) (hl:oW!) (s:Sto):xb [bE!,az!] s=gY! hD!:=by
 obtain⟨pre,hp⟩:=List.getLast?_eq_some_iff.mp (z89 jC! bu!);exact (λd e h1=>by
  have st:zv dq! [d,e]=hp!:=rfl;have ix:=z71 (x:=ad! (fX! (z3n bu! jC!))) (d:=tD hD!) (xs:=pre.map tD) (s:=s) (by rw[hp];simp[zY,kf]);simp only[xb,kX,qg,st,_h,_l,_v,uH,yf];rw[op2 (by rw[z2W,call2 (x:=d) (y:=e) (by simp) (by simp),h1,z9P]) (y:=d! (-1)) (by simp),ix];rfl:hM! (yP [d,e] s=gs! (s++[fX! (z3n bu! jC!)])->xb [d,e] s=gY! hD!)) _ _ (zex r h Rn hm hl s)
theorem zfb(h:zA [d,e] s=em!):xb [d,e] s=em!:=by
 have st:zv dq! [d,e]=hp!:=rfl;simp only[xb,kX,qg,st,_h,_l,_v,uH,yf,yy,(show z4I (cU! yP) hp! s=em! from by rw[z2W,z5m (x:=d) (y:=e) u! u! (z9f h)];rfl),R.bind_ex]
end
theorem zjL:jk=wo:=rfl
theorem zdY{n:Nat} (hn:n<=4) (s:Sto):xr [d! n] s=gY! bu!:=by
 exact (iM! (by
  have st:zv [fR!] [d]=cQ!:=rfl;have outer:=comp_map (s:=s) (fi:=ek! 0) (mp:=ag! 0) (fg:=cj!) (fe:=eB! (ek! 0) b9! 1 (a0! zdd (et! dEq 0 n!))) (ρ:=cQ!) (λi:Nat=>aD! (h! i)) (λi=>rD (aR! n (λj=>ai! i j 1 0))) (λi=>[k!,e! (h! i)]) iV! (jg (by lia) (by simp[hd])) (λa _=>by simp) (λi _=>by
    rw[xi ((λi=> comp_map (λj:Nat=>aD! (h! j)) (λj=>aD! (ai! i j 1 0)) (λj=>[e! (Z! i),e! (h! j)]) iV! (jg (by lia) (by simp[hd])) (λa _=>by simp) (λj _=>by
    rw[xi (x:=.bl (ki! i j)) (by
     rw[yy,vr (d:=d! (Z! i)) rfl,Rb,vr (d:=d! (Z! j)) rfl,Rb,zaR];congr 2;exact decide_eq_decide.mpr (by lia))];by_cases q:i=j<;>simp[q,zdd]) (by simp[cap];lia):∀i:Nat,zt (ek! 0) b9! cj! zX (a0! zdd (et! dEq 0 n!)) [k!,e! (Z! i)] s=bt! (aR! n (λj=>aD! (ai! i j 1 0)))) i),z8t];simp[_ae,_Q]) (by simp[cap];lia);rw[(show aR! n (λi=>rD (aR! n (λj=>ai! i j (h! 1) 0)))=bC! bu! from by rw[one,_ae];rfl)]at outer;simp only[xr,Mof,z2t,st,_h,_l,_v,z1b,yf];rw[xi au!];rfl):∀d:D,d=d! (h! n)->xr [d] s=gY! bu!) _ rfl
end Po
namespace Pb
open Pm
noncomputable def z0E(q:Int)(h r:i!):i!:=kJ! (λm o=>o-q*m) h r
theorem z5k{q:Int}{h r:i!}(e:h.length=aK!):q! (z0E q h r)=aK!:=by simp[z0E,e]
theorem z2R{q:Int}:∀{h r:List Int},h.length=aK!->∀j:Nat,bj! (z0E q h r) j=cL! j-q*h.getD j 0
 | [],[],_,j=>by simp[z0E] | a::h,b::r,e,0=>by simp[z0E] | a::h,b::r,e,j+1=>by
  have:=z2R (q:=q) (h:=h) (r:=r) (by simpa using e) j;simpa[z0E] using this
theorem z6z(q:Int)(h r:i!)(n:Nat):(z0E q h r).take n=z0E q (h.take n) pX!:=by simp[z0E,List.take_zipWith]
theorem zbm(q:Int)(h r:i!)(n:Nat):(z0E q h r).drop n=z0E q (h.drop n) mG!:=by simp[z0E,List.drop_zipWith]
theorem zea{q:Int}:∀(c:List Int) {h r:List Int},h.length=aK!->dot c (z0E q h r)=dot c r-q*dot c h
 | [],h,r,_=>by simp[dot] | x::c,[],[],_=>by simp[dot,z0E] | x::c,a::h,b::r,e=>by
  have:=zea (q:=q) c (h:=h) (r:=r) (by simpa using e);simp only[dot,z0E,_aQ,_aM]at this ⊢;rw[this];grind
theorem zc2{q:Int}{h r:i!}(e:h.length=aK!):∀C:Tb,mv C (z0E q h r)=z0E q (mv C h) (mv C r)
 | []=>by simp[mv,z0E] | c::C=>by
  have:=zc2 (q:=q) e C;simp only[mv,z0E,_u,_aQ]at this ⊢;rw[<- this];have:=zea (q:=q) c e;simp only[z0E]at this;rw[this]
theorem zog{a b c d e f g h X Yy Z W q u v:Int}(e1:(a-q*e)*X-(b-q*f)*Yy+(c-q*g)*Z-(d-q*h)*W=u)(e2:a*X-b*Yy+c*Z-d*W=v)(e3:e*X-f*Yy+g*Z-h*W=0):u=v:=by grind
theorem zob{a b c d e f g h X Yy Z W q u v:Int}(e1:-(a-q*e)*X+(b-q*f)*Yy-(c-q*g)*Z+(d-q*h)*W=u)(e2:-a*X+b*Yy-c*Z+d*W=v)(e3:-e*X+f*Yy-g*Z+h*W=0):u=v:=by grind
theorem zm0{n h k:Nat}{A:Tb}(hn:a9!)(hA:h7!)(hh:h<n)(hk:k<n)(ne:h≠k)(q:Int):eE! (A.set k (z0E q (mL! h) (mL! k)))=eE! A:=by
 rcases hn with rfl | rfl | rfl
 ·obtain⟨a,b,c,d,rfl⟩:=zde hA;rcases (show h=0\/h=1 by lia) with rfl | rfl<;>rcases (show k=0\/k=1 by lia) with rfl | rfl<;>first | exact fe! ne | (simp[z0E,za8,d2];grind)
 ·obtain⟨a,b,c,d,e,f,g,i,j,rfl⟩:=zdK hA;rcases (show h=0\/h=1\/h=2 by lia) with rfl | rfl | rfl<;>rcases (show k=0\/k=1\/k=2 by lia) with rfl | rfl | rfl<;>first | exact fe! ne | (simp[z0E,z80,d3,d2];grind)
 ·obtain⟨a,b,c,d,e,f,g,h',i,j,l,m,n,o,p,r,rfl⟩:=zdt hA;rcases (show h=0\/h=1\/h=2\/h=3 by lia) with rfl | rfl | rfl | rfl<;>rcases (show k=0\/k=1\/k=2\/k=3 by lia) with rfl | rfl | rfl | rfl;·exact fe! ne
  ·exact hf! (jK 0 a b c d (e-q*a) (f-q*b) (g-q*c) (h'-q*d) i j l m n o p r) (zob (zd3 a b c d (e-q*a) (f-q*b) (g-q*c) (h'-q*d) i j l m n o p r) (zd3 a b c d e f g h' i j l m n o p r) (zqB a b c d e f g h' i j l m n o p r)) (jK 0 a b c d e f g h' i j l m n o p r).symm
  ·exact hf! (jK 0 a b c d e f g h' (i-q*a) (j-q*b) (l-q*c) (m-q*d) n o p r) (zog (zc5 a b c d e f g h' (i-q*a) (j-q*b) (l-q*c) (m-q*d) n o p r) (zc5 a b c d e f g h' i j l m n o p r) (zoX a b c d e f g h' i j l m n o p r)) (jK 0 a b c d e f g h' i j l m n o p r).symm
  ·exact hf! (jK 0 a b c d e f g h' i j l m (n-q*a) (o-q*b) (p-q*c) (r-q*d)) (zob (zcy a b c d e f g h' i j l m (n-q*a) (o-q*b) (p-q*c) (r-q*d)) (zcy a b c d e f g h' i j l m n o p r) (zow a b c d e f g h' i j l m n o p r)) (jK 0 a b c d e f g h' i j l m n o p r).symm
  ·exact hf! (jK 0 (a-q*e) (b-q*f) (c-q*g) (d-q*h') e f g h' i j l m n o p r) (zog (zd5 (a-q*e) (b-q*f) (c-q*g) (d-q*h') e f g h' i j l m n o p r) (zd5 a b c d e f g h' i j l m n o p r) (zps a b c d e f g h' i j l m n o p r)) (jK 0 a b c d e f g h' i j l m n o p r).symm
  ·exact fe! ne
  ·exact hf! (jK 0 a b c d e f g h' (i-q*e) (j-q*f) (l-q*g) (m-q*h') n o p r) (zog (zc5 a b c d e f g h' (i-q*e) (j-q*f) (l-q*g) (m-q*h') n o p r) (zc5 a b c d e f g h' i j l m n o p r) (zqo a b c d e f g h' i j l m n o p r)) (jK 0 a b c d e f g h' i j l m n o p r).symm
  ·exact hf! (jK 0 a b c d e f g h' i j l m (n-q*e) (o-q*f) (p-q*g) (r-q*h')) (zob (zcy a b c d e f g h' i j l m (n-q*e) (o-q*f) (p-q*g) (r-q*h')) (zcy a b c d e f g h' i j l m n o p r) (zpx a b c d e f g h' i j l m n o p r)) (jK 0 a b c d e f g h' i j l m n o p r).symm
  ·exact hf! (jK 0 (a-q*i) (b-q*j) (c-q*l) (d-q*m) e f g h' i j l m n o p r) (zog (zd5 (a-q*i) (b-q*j) (c-q*l) (d-q*m) e f g h' i j l m n o p r) (zd5 a b c d e f g h' i j l m n o p r) (zq2 a b c d e f g h' i j l m n o p r)) (jK 0 a b c d e f g h' i j l m n o p r).symm
  ·exact hf! (jK 0 a b c d (e-q*i) (f-q*j) (g-q*l) (h'-q*m) i j l m n o p r) (zob (zd3 a b c d (e-q*i) (f-q*j) (g-q*l) (h'-q*m) i j l m n o p r) (zd3 a b c d e f g h' i j l m n o p r) (zoE a b c d e f g h' i j l m n o p r)) (jK 0 a b c d e f g h' i j l m n o p r).symm
  ·exact fe! ne
  ·exact hf! (jK 0 a b c d e f g h' i j l m (n-q*i) (o-q*j) (p-q*l) (r-q*m)) (zob (zcy a b c d e f g h' i j l m (n-q*i) (o-q*j) (p-q*l) (r-q*m)) (zcy a b c d e f g h' i j l m n o p r) (zqF a b c d e f g h' i j l m n o p r)) (jK 0 a b c d e f g h' i j l m n o p r).symm
  ·exact hf! (jK 0 (a-q*n) (b-q*o) (c-q*p) (d-q*r) e f g h' i j l m n o p r) (zog (zd5 (a-q*n) (b-q*o) (c-q*p) (d-q*r) e f g h' i j l m n o p r) (zd5 a b c d e f g h' i j l m n o p r) (zqM a b c d e f g h' i j l m n o p r)) (jK 0 a b c d e f g h' i j l m n o p r).symm
  ·exact hf! (jK 0 a b c d (e-q*n) (f-q*o) (g-q*p) (h'-q*r) i j l m n o p r) (zob (zd3 a b c d (e-q*n) (f-q*o) (g-q*p) (h'-q*r) i j l m n o p r) (zd3 a b c d e f g h' i j l m n o p r) (zoW a b c d e f g h' i j l m n o p r)) (jK 0 a b c d e f g h' i j l m n o p r).symm
  ·exact hf! (jK 0 a b c d e f g h' (i-q*n) (j-q*o) (l-q*p) (m-q*r) n o p r) (zog (zc5 a b c d e f g h' (i-q*n) (j-q*o) (l-q*p) (m-q*r) n o p r) (zc5 a b c d e f g h' i j l m n o p r) (zoH a b c d e f g h' i j l m n o p r)) (jK 0 a b c d e f g h' i j l m n o p r).symm
  ·exact fe! ne
theorem ziZ{n f k:Nat}{A:Tb}(hn:a9!)(hA:h7!)(hf:f<n)(hk:k<n):jG! 4 ((A.set f (mL! k)).set k (mL! f))=jG! 4 A:=by
 have key:eE! ((A.set f (mL! k)).set k (mL! f))=eE! A\/eE! ((A.set f (mL! k)).set k (mL! f))=-(eE! A):=by
  rcases hn with rfl | rfl | rfl
  ·obtain⟨a,b,c,d,rfl⟩:=zde hA;rcases (show f=0\/f=1 by lia) with rfl | rfl<;>rcases (show k=0\/k=1 by lia) with rfl | rfl<;>first | exact cZ! | (right;simp[za8,d2];grind)
  ·obtain⟨a,b,c,d,e,f,g,i,j,rfl⟩:=zdK hA;rename_i f';rcases (show f'=0\/f'=1\/f'=2 by lia) with rfl | rfl | rfl<;>rcases (show k=0\/k=1\/k=2 by lia) with rfl | rfl | rfl<;>first | exact cZ! | (right;simp[z80,d3,d2];grind)
  ·obtain⟨a,b,c,d,e,f,g,i,j,k',l,m,n',o,p,q',rfl⟩:=zdt hA;rename_i f';rcases (show f'=0\/f'=1\/f'=2\/f'=3 by lia) with rfl | rfl | rfl | rfl<;>rcases (show k=0\/k=1\/k=2\/k=3 by lia) with rfl | rfl | rfl | rfl<;>first | exact cZ! | (right;simp[jK,d4,d3,d2];grind)
 rcases key with e | e<;>rw[e];exact Int.natAbs_neg _
theorem qc{a b:Int}(h:bg! (a*b)=1):od!=1/\b.natAbs=1:=by
 rw[_aJ]at h;exact⟨Nat.eq_one_of_mul_eq_one_right h,Nat.eq_one_of_mul_eq_one_left h⟩
theorem zv1{a b c d e f g i j k l m n o p q:Int}(z1:e=0)(z2:j=0)(z3:k=0)(z4:n=0)(z5:o=0)(z6:p=0)(h:jG! 4 [[a,b,c,d],[e,f,g,i],[j,k,l,m],[n,o,p,q]]=1):od!=1/\f.natAbs=1/\l.natAbs=1/\pE!=1:=by
 subst z1 z2 z3 z4 z5 z6;rw[jK,show d4 a b c d 0 f g i 0 0 l m 0 0 0 q=a*(f*(l*q)) by simp[d4,d3,d2]]at h;obtain⟨h1,h⟩:=qc h;obtain⟨h2,h⟩:=qc h;exact⟨h1,h2,qc h⟩
theorem zv6{a b c d e f g i j:Int}(z1:d=0)(z2:g=0)(z3:i=0)(h:jG! 4 [[a,b,c],[d,e,f],[g,i,j]]=1):od!=1/\e.natAbs=1/\jX!=1:=by
 subst z1 z2 z3;rw[z80,show aP! 0 e f 0 0 j=a*(e*j) by simp[d3,d2]]at h;obtain⟨h1,h⟩:=qc h;exact⟨h1,qc h⟩
theorem zuL{a b c d:Int}(z1:c=0)(h:jG! 4 [[a,b],[c,d]]=1):od!=1/\d.natAbs=1:=by
 subst z1;rw[za8,show d2 a b 0 d=a*d by simp[d2]]at h;exact qc h
theorem zo3{n:Nat}{A:Tb}(hn:a9!)(hA:h7!)(z:∀c k,c<k->k<n->bj! (mL! k) c=0)(h:jG! 4 A=1):∀k,k<n->bg! (bj! (mL! k) k)=1:=by
 rcases hn with rfl | rfl | rfl
 ·obtain⟨a,b,c,d,rfl⟩:=zde hA;have h:=zuL (z 0 1 (by decide) (by decide)) h;exact λ| 0,_=>h.1 | 1,_=>h.2 | k+2,hk=>bS! hk (by lia)
 ·obtain⟨a,b,c,d,e,f,g,i,j,rfl⟩:=zdK hA;have h:=zv6 (z 0 1 (by decide) (by decide)) (z 0 2 (by decide) (by decide)) (z 1 2 (by decide) (by decide)) h;exact λ| 0,_=>h.1 | 1,_=>h.2.1 | 2,_=>h.2.2 | k+3,hk=>bS! hk (by lia)
 ·obtain⟨a,b,c,d,e,f,g,i,j,k',l,m,n',o,p,q',rfl⟩:=zdt hA;have h:=zv1 (z 0 1 (by decide) (by decide)) (z 0 2 (by decide) (by decide)) (z 1 2 (by decide) (by decide)) (z 0 3 (by decide) (by decide)) (z 1 3 (by decide) (by decide)) (z 2 3 (by decide) (by decide)) h;exact λ| 0,_=>h.1 | 1,_=>h.2.1 | 2,_=>h.2.2.1 | 3,_=>h.2.2.2 | k+4,hk=>bS! hk (by lia)
structure Gd(n:Nat)(T L:Tb):g! where
 len:aA!=n
 row:∀r∈L,aK!=n+n
 lk:∀r∈L,pX!=mv (ye T) mG!
 dt:jG! 4 (oi! rk!)=1
noncomputable def at2(L:Tb)(k j:Nat):Int:=bj! dN! j
section
variable {n:Nat}{T L:Tb}
theorem getD_mem{L:Tb}{k:Nat}(h:k<aA!):dN!∈L:=by
 rw[_n,_b h];exact _G h
theorem uk(L:Tb)(i k:Nat)(r:i!)(hi:i<aA!):h3! (j4! i r) k=ai! i k r dN!:=by
 simp only[_n,List.getElem?_set];split;·rename_i e;subst e;simp[hi]
 ·rfl
theorem Gd.tab(g:Gd n T L):eW! (oi! rk!):=⟨by simp[g.len],c9! (by
 obtain⟨x,hx,rfl⟩:=jI!;simp[ot! x hx])⟩
theorem Gd.rl(g:Gd n T L){k:Nat}(hk:k<n):q! dN!=n+n:=ot! _ (hb! (by rw[g.len];exact hk))
theorem getD_map(L:Tb)(k n:Nat):h3! (oi! rk!) k=(dN!).take n:=by
 simp only[_n,_A];cases L[k]? <;> simp
theorem Gd.sub(g:Gd n T L)(hn:a9!){h k:Nat}(hh:h<n)(hk:k<n)(ne:h≠k)(q:Int):Gd n T (j4! k (z0E q (cx! h) dN!)):=by
 have lh:=g.rl hh;have lZ:=g.rl hk;have mh:=hb! (by rw[g.len];exact hh);have mk:=hb! (by rw[g.len];exact hk);refine⟨by simp[g.len],c9! ?_,c9! ?_,?_⟩
 ·rcases _B hr with h | rfl;·exact ot! r h
  ·rw[z5k (by lia)];exact lZ
 ·rcases _B hr with h | rfl;·exact g.lk r h
  ·rw[z6z,zbm,zc2 (by rw[_ax,_ax,lh,lZ]),g.lk _ mh,g.lk _ mk]
 ·rw[_bb,z6z,<- getD_map,<- getD_map,zm0 hn g.tab hh hk ne];exact g.dt
theorem Gd.swap(g:Gd n T L)(hn:a9!){f k:Nat}(hf:f<n)(hk:k<n):Gd n T ((j4! f dN!).set k (cx! f)):=by
 have mf:=hb! (by rw[g.len];exact hf);have mk:=hb! (by rw[g.len];exact hk);have all:∀r∈(j4! f dN!).set k (cx! f),r∈L:=c9! (by
  rcases _B hr with h | rfl
  ·rcases _B h with h | rfl;·exact h
   ·exact mk
  ·exact mf)
 refine⟨by simp[g.len],c9! (ot! r (all r hr)),c9! (g.lk r (all r hr)),?_⟩;rw[_bb,_bb,<- getD_map,<- getD_map,ziZ hn g.tab hf hk];exact g.dt
noncomputable def elim(a:Nat)(hd:i!):Nat->Tb->Tb
 | 0,L=>L | j+1,L=>let M:=kx! a j L;M.set (a+1+j) (z0E ((at2 M (a+1+j) a).fdiv (jH! 0)) hd (M.getD (a+1+j) []))
theorem z2i(a:Nat)(hd:i!):∀(j:Nat)(L:Tb),q! (kx! a j L)=aA!
 | 0,L=>rfl | j+1,L=>by simp[elim,z2i a hd j L]
theorem z57{a:Nat} {hd:i!} {L:Tb}:∀(j:Nat),a+1+j<=aA!->∀k,h3! (kx! a j L) k=am! (a<k/\k<a+1+j) (z0E ((dj!).fdiv (jH! 0)) hd dN!) dN!
 | 0,_,k=>by rw[_q (by lia)];rfl | j+1,h,k=>by
  have ih:=z57 (a:=a) (hd:=hd) (L:=L) j (by lia);simp only[elim];rw[uk _ _ _ _ (by rw[z2i];lia)];have e1:h3! (kx! a j L) (a+1+j)=cx! (a+1+j):=by rw[ih,_q (by lia)]
  split
  ·rename_i e;subst e;rw[_i (by lia),at2,e1];rfl
  ·rename_i ne;rw[ih];by_cases hk:a<k/\k<a+1+j;·rw[_i hk,_i (by lia)]
   ·rw[_q hk,_q (by lia)]
theorem Gd.elim(hn:a9!) {a:Nat} {hd:i!}:∀(j:Nat) {L:Tb},Gd n T L->a+1+j<=n->d6!=hd->Gd n T (Pb.elim a hd j L)
 | 0,L,g,_,_=>g | j+1,L,g,h,e=>by
  have ih:=Gd.elim hn j g (by lia) e;have e1:h3! (Pb.elim a hd j L) a=hd:=by rw[z57 j (by rw[g.len];lia),_q (by lia),e]
  have:=ih.sub hn (h:=a) (k:=a+1+j) (by lia) (by lia) (by lia) ((at2 (Pb.elim a hd j L) (a+1+j) a).fdiv (jH! 0));rw[e1]at this;exact this
noncomputable def pas(n a f:Nat)(L:Tb):Tb:=elim a (cx! f) (n-1-a) ((j4! f d6!).set a (cx! f))
theorem Gd.pas(g:Gd n T L)(hn:a9!){a f:Nat}(ha:a<n)(hf:f<n):Gd n T (Pb.pas n a f L):= Gd.elim hn _ (g.swap hn hf ha) (by lia) (by rw[uk _ _ _ _ (by simp[g.len];exact ha),gU!])
theorem zmw(g:Gd n T L){a f:Nat}(ha:a<n)(hf:f<n)(l5:a<=f)(k:Nat):h3! (pas n a f L) k= ai! k a (cx! f) (am! (a<k/\k<n) (let r:=ai! k f d6! dN!;z0E ((cL! a).fdiv (b4! f)) (cx! f) r) dN!):=by
 unfold pas;rw[z57 _ (by simp[g.len];lia)];have e:∀k,h3! ((j4! f d6!).set a (cx! f)) k=ai! k a (cx! f) (ai! k f d6! dN!):=λk=>by
  rw[uk _ _ _ _ (by simp[g.len];exact ha),uk _ _ _ _ (by rw[g.len];exact hf)];simp only[eq_comm (a:=a),eq_comm (a:=f)]
 by_cases hka:k=a
 ·subst hka;rw[_q (by lia),e,gU!,gU!]
 ·rw[_q hka];by_cases hk:a<k/\k<n
  ·rw[_i (by lia),_i hk];simp only[at2,e,_q hka]
  ·rw[_q (by lia),_q hk,e,_q hka];rw[_q (by lia)]
end
theorem ab1{r h:Int}(r0:0<=r)(r1:r<h):r.natAbs<ig!:=by omega
theorem ab2{x r h:Int}(r0:0<=r)(r1:r<h):bg! (x-r)<=iS!+ig!:=by omega
theorem ab3{x r:Int}(r0:0<=r)(m:0<=x-r):bg! (x-r)<=iS!:=by omega
theorem ab4{x r h:Int}(r0:0<=r)(hp:0<h)(m:h<=x-r):r.natAbs+ig!<=iS!:=by omega
theorem ab5{x h:Int}(x0:0<=x)(hl:ig!<=iS!):h<=x:=by omega
theorem zll{x h:Int}(hp:0<h):bg! (x-x / h*h)<ig!/\0<=(x-x / h*h)*h/\bg! (x / h)*ig!<=iS!+ig!/\(0<=x*h->bg! (x / h)*ig!<=iS!/\(ig!<=iS!->bg! (x-x / h*h)+ig!<=iS!)):=by
 have h0:0<=h:=Int.le_of_lt hp;have e:x-x / h*h=x % h:=by rw[Int.emod_def,Int.mul_comm]
 have r0:=_a9 x (Int.ne_of_gt hp);have r1:=_bm x hp;have m:x / h*h=x-x % h:=by rw[<- e,Int.sub_sub_self]
 rw[e,<- _aJ,m];refine⟨ab1 r0 r1,_bf r0 h0,ab2 r0 r1,λhx=>?_⟩;have x0:0<=x:=_cj.mp λz=>_cj.mpr hx (_a6 z hp);have m0:=_bf (Int.ediv_nonneg x0 h0) h0;rw[m]at m0;refine⟨ab3 r0 m0,λhl=>?_⟩;have q1:=Int.ediv_le_ediv hp (ab5 x0 hl);rw[Int.ediv_self (Int.ne_of_gt hp)]at q1;have q2:=_ci q1 h0;rw[m,Int.one_mul]at q2;exact ab4 r0 hp q2
theorem fd{x h:Int}(hz:h≠0):bg! (x-oT!*h)<ig!/\0<=(x-oT!*h)*h/\bg! oT!*ig!<=iS!+ig!/\(0<=x*h->bg! oT!*ig!<=iS!/\(ig!<=iS!->bg! (x-oT!*h)+ig!<=iS!)):=by
 by_cases hp:0<h
 ·rw[_bz _ (by omega)];exact zll hp
 ·have e:oT!=(-x) / (-h):=by rw[<- Int.neg_fdiv_neg,_bz _ (by omega)]
  obtain⟨h1,h2,h3,h4⟩:=zll (h:=-h) (by omega);rw[<- e]at h1 h2 h3 h4;have e2:-x-oT!*-h=-(x-oT!*h):=by grind
  rw[e2]at h1 h2 h4;simp only[Int.natAbs_neg,Int.neg_mul_neg]at h1 h2 h3 h4;exact ck! h1 h2 h3 h4
section
variable {n a f:Nat}{T L:Tb}
structure Mn(n a f:Nat)(L:Tb):g! where
 le:a<=f
 lt:f<n
 nz:b4! f≠0
 mn:∀k,a<=k->k<n->dj!≠0->fq! f<=fq! k
theorem zbY(g:Gd n T L)(ha:a<n)(hf:f<n)(l5:a<=f)(k j:Nat):at2 (pas n a f L) k j= ai! k a (eT! f j) (am! (a<k/\k<n) (eT! (ai! k f a k) j-(b4! (ai! k f a k)).fdiv (b4! f)*eT! f j) (eT! k j)):=by
 unfold at2;rw[zmw g ha hf l5];by_cases hka:k=a;·rw[_i hka,_i hka]
 ·rw[_q hka,_q hka];by_cases hk:a<k/\k<n
  ·rw[_i hk,_i hk];have lf:=g.rl hf;by_cases e:k=f
   ·simp only[_i e];rw[z2R (by rw[lf,g.rl ha])];rfl
   ·simp only[_q e];rw[z2R (by rw[lf,g.rl hk.2])];rfl
  ·rw[_q hk,_q hk]
def Zr(n a:Nat)(L:Tb):g!:=∀c,c<a->∀k,c<k->k<n->eT! k c=0
theorem Zr.pas(z:Zr n a L)(g:Gd n T L)(ha:a<n)(M:Mn n a f L):Zr n a (Pb.pas n a f L):=λc hc k hk hn=>by
 rw[zbY g ha lG! M.le];have zf:=z c hc f (by have:=M.le;omega) lG!;have za:=z c hc a (by omega) ha;have zk:=z c hc k hk hn;split;·exact zf
 ·split
  ·rw[zf];split;·rw[za];simp
   ·rw[zk];simp
  ·exact zk
structure S1(n a:Nat)(L:Tb)(H N:Nat):g! where
 hd:fq! a=H
 pos:0<H
 bel:∀k,a<k->k<n->fq! k<H/\0<=dj!*b4! a
 bd:∀k,k<n->∀j,dB! L k j*H<N
theorem zl8{y q m:Int}{H X:Nat}(h:pE!*H<=X):bg! (y-q*m)*H<=nl!*H+X*m.natAbs:=by
 have h1:bg! (y-q*m)<=nl!+pE!*m.natAbs:=by rw[<- _aJ];exact Int.natAbs_sub_le ..
 have h2:=_aB H h1;have h3:=_aB m.natAbs h;rw[_c9]at h2;exact _H h2 (Nat.add_le_add_left (Nat.mul_right_comm .. ▸ h3) _)
theorem zc7(b:Nat):2 ^ b*2 ^ b*4=2 ^ (2*b+2):=by rw[_bY,Nat.two_mul,_bY]
theorem zeF{b:Nat} (g:Gd n T L) (ha:a<n) (M:Mn n a f L) (hb:∀k,k<n->∀j,dB! L k j<2 ^ b):S1 n a (pas n a f L) (fq! f) (2 ^ (2*b+2)):=by
 have hf:=hb f lG!;have pos:0<fq! f:=by have:=M.nz;omega
 have e:=zbY g ha lG! M.le;refine⟨by rw[e,gU!],pos,nn! ?_,λk h2 j=>?_⟩
 ·have ea:at2 (pas n a f L) a a=b4! f:=by rw[e,gU!]
  rw[ea,e,_q (by omega),cd! h1 h2];obtain⟨r1,r2,_,_⟩:=fd M.nz;exact as! r1 r2
 ·rw[<- zc7];have hH:=hf a;rw[e];have pp:=_cx b;have bQ:∀x y:Nat,x<2 ^ b->y<2 ^ b->x*y<2 ^ b*2 ^ b:=λx y hx hy=>_ch hx hy;split;·have:=bQ _ _ (hf j) hH;omega
  ·split
   ·obtain⟨_,_,r3,_⟩:=fd (x:=b4! (ai! k f a k)) M.nz;have l6:(ai! k f a k)<n:=by split<;>omega
    have h5:=zl8 (y:=eT! (ai! k f a k) j) (m:=eT! f j) r3;have h6:=bQ _ _ (hb _ l6 j) hH;have h7:=bQ _ _ (hb _ l6 a) (hf j);have h8:=bQ _ _ hH (hf j);rw[_c9]at h5;omega
   ·have:=bQ _ _ (hb k h2 j) hH;omega
theorem zaa{H N:Nat} (g:Gd n T L) (ha:a<n) (S:S1 n a L H N) (M:Mn n a f L) (hx:∃k,a<k/\k<n/\dj!≠0): S1 n a (pas n a f L) (fq! f) (2*N)/\fq! f<H/\∀k,a<k->k<n->2*dB! (pas n a f L) k a<H:=by
 have pos:0<fq! f:=by have:=M.nz;omega
 have e:=zbY g ha lG! M.le;have bx:fq! f<H:=by
  obtain⟨k,h1,h2,h3⟩:=hx;have:=M.mn k (by omega) h2 h3;have:=(S.bel k h1 h2).1;omega
 have fa:a<f:=by
  rcases _aS M.le with h | h;·exact h
  ·rw[<- h]at bx;have:=S.hd;omega
 have l7:∀k,a<=k->k<n->0<=dj!*b4! f/\fq! k<=H:=nn! (by
  have s1:fq! k<=H/\0<=dj!*b4! a:=by
   rcases _aS h1 with h | h;·exact⟨_bh (S.bel k h h2).1,(S.bel k h h2).2⟩
   ·subst h;exact⟨by rw[S.hd];exact al!,by rw[<- Int.natAbs_mul_self];omega⟩
  have s2:=(S.bel f fa lG!).2;refine as! ?_ s1.1;have hn:=S.hd;have hp:=S.pos;rcases Int.lt_or_gt_of_ne (show b4! a≠0 by omega) with q | q
  ·have x1:dj!<=0:=by
    apply _cj.mp;intro z;have:=Int.mul_neg_of_pos_of_neg z q;omega
   have x2:b4! f<=0:=by
    apply _cj.mp;intro z;have:=Int.mul_neg_of_pos_of_neg z q;omega
   exact _bV x1 x2
  ·have x1:0<=dj!:=by
    apply _cj.mp;intro z;have:=_a6 z q;omega
   have x2:0<=b4! f:=by
    apply _cj.mp;intro z;have:=_a6 z q;omega
   exact _bf x1 x2)
 have src:∀k,a<k->k<n->a<=(ai! k f a k)/\(ai! k f a k)<n:=nn! (by split<;>omega)
 refine⟨⟨by rw[e,gU!],pos,nn! ?_,λk h2 j=>?_⟩,bx,nn! ?_⟩
 ·have ea:at2 (pas n a f L) a a=b4! f:=by rw[e,gU!]
  rw[ea,e,_q (by omega),cd! h1 h2];obtain⟨r1,r2,_,_⟩:=fd M.nz;exact as! r1 r2
 ·have iO := λk hk=>_a4 (Nat.mul_le_mul_left _ (_bh bx)) (S.bd k hk j);rw[e];split;·have:=iO f lG!;omega
  ·split
   ·rename_i hk;obtain⟨i1,i2⟩:=src k hk.1 hk.2;obtain⟨s1,s2⟩:=l7 _ i1 i2;obtain⟨_,_,_,r4⟩:=fd M.nz;have h5:=zl8 (y:=eT! (ai! k f a k) j) (m:=eT! f j) (_H (r4 s1).1 s2);have h6:=iO _ i2;have h7:=S.bd f lG! j;rw[_dI]at h7;omega
   ·have:=iO k h2;omega
 ·rw[e,_q (by omega),cd! h1 h2];obtain⟨i1,i2⟩:=src k h1 h2;obtain⟨s1,s2⟩:=l7 _ i1 i2;obtain⟨r1,_,_,r4⟩:=fd M.nz;by_cases z:b4! (ai! k f a k)=0;·rw[z];simp;have:=S.pos;omega
  ·have:=(r4 s1).2 (M.mn _ i1 i2 z);omega
end
noncomputable def C8:Nat:=2 ^ 8000
noncomputable def C2:Nat:=2 ^ bH!
inductive Lr(f:Tb->Nat)(n a:Nat):Nat->Tb->Tb->g! | done {L:Tb}(h:∀k,a<k->k<n->dj!=0):Lr f n a 0 L L | step {m:Nat}{L L':Tb}(h:∃k,a<k/\k<n/\dj!≠0)(r:∀x∈L,x.length=n+n)(l:aA!=n)(M:Mn n a (f L) L)(b1:∀i,i<n->∀j,dB! L i j<C8)(b2:∀i,a<=i->i<n->fq! i<C2)(q:Lr f n a m (pas n a (f L) L) L'):Lr f n a (m+1) L L'
section
variable {n a:Nat}{T:Tb}{f:Tb->Nat}
theorem Zr.up{L:Tb}(z:Zr n a L)(h:∀k,a<k->k<n->dj!=0):Zr n (a+1) L:=λc hc k hk hn=>by
 rcases _aS (Nat.le_of_lt_succ hc) with q | q;·exact z c q k hk hn
 ·subst q;exact h k hk hn
theorem zfW{L:Tb}:(∀k,a<k->k<n->dj!=0)\/∃k,a<k/\k<n/\dj!≠0:=by
 by_cases h:∃k,a<k/\k<n/\dj!≠0;·exact Q! h
 ·exact y! (nn! (_Y λz=>h ⟨k,h1,h2,z⟩))
theorem S1.lt{L:Tb}{H N:Nat}(S:S1 n a L H N)(i:Nat)(hi:i<n)(j:Nat):dB! L i j<N:=by
 have h1:=S.bd i hi j;have h2:=Nat.mul_le_mul_left (dB! L i j) S.pos;lia
theorem S1.col{L:Tb}{H N k:Nat}(S:S1 n a L H N)(h:H<2 ^ k)(hk:k<=bH!):∀i,a<=i->i<n->fq! i<C2:=λi h1 h2=>by
 have h3:2 ^ k<=C2:=_C (by decide) hk;have h4:fq! i<=H:=by
  rcases _aS h1 with q | q;·exact _bh (S.bel i q h2).1
  ·subst q;exact Nat.le_of_eq S.hd
 lia
theorem ztY(hn:a9!)(ha:a<n)(hf:∀L:Tb,aA!=n->(∃k,a<k/\k<n/\dj!≠0)->Mn n a (f L) L):∀(k:Nat){L:Tb}{H N:Nat},Gd n T L->Zr n a L->S1 n a L H N->H<2 ^ k->k<=bH!->N*4 ^ k<=C8-> ∃m L',Lr f n a m L L'/\Gd n T L'/\Zr n (a+1) L'/\∀i,i<n->∀j,dB! L' i j<N*4 ^ k
 | 0,L,H,N,g,z,S,h,_,_=>by have:=S.pos;lia | k+1,L,H,N,g,z,S,h,hk,hN=>by
  have p4:N*4 ^ (k+1)=4*N*4 ^ k:=by rw[_dN];grind
  have p1:1<=4 ^ k:=Nat.pos_of_ne_zero (by simp);have pk:2 ^ (k+1)=2*2 ^ k:=by rw[_dN];lia
  have q1:4*N<=4*N*4 ^ k:=_bZ _ p1;have c1:=S.col h hk;have l1:=S.lt;rw[p4]at hN ⊢;generalize hZ:4*N*4 ^ k=Z at *;rcases zfW with h0 | h0;·exact⟨0,L,.done h0,g,z.up h0,lH! (by have:=l1 i hi j;lia)⟩
  ·have M:=hf L q9! h0;obtain⟨S2,h2,h3⟩:=zaa g ha S M h0;have g2:=g.pas hn ha lG!;have z2:=z.pas g ha M;have b1:∀i,i<n->∀j,dB! L i j<C8:=lH! (by have:=l1 i hi j;lia)
   have l2:=S2.lt;rcases zfW with h4 | h4;·exact⟨1,_,.step h0 g.row q9! M b1 c1 (.done h4),g2,z2.up h4,lH! (by have:=l2 i hi j;lia)⟩
   ·have M2:=hf _ g2.len h4;obtain⟨S3,h5,h6⟩:=zaa g2 ha S2 M2 h4;have hH:dB! (pas n a (f L) L) (f (pas n a (f L) L)) a<2 ^ k:=by
     obtain⟨i,i1,i2,i3⟩:=h4;have:=M2.mn i (by lia) i2 i3;have:=h3 i i1 i2;lia
    have c2:=S2.col (by lia) hk;have b2:∀i,i<n->∀j,dB! (pas n a (f L) L) i j<C8:=lH! (by have:=l2 i hi j;lia)
    have pA:S1 n a (pas n a (f (pas n a (f L) L)) (pas n a (f L) L)) (dB! (pas n a (f L) L) (f (pas n a (f L) L)) a) (4*N):=by
     have e:2*(2*N)=4*N:=by lia
     rw[e]at S3;exact S3
    obtain⟨m,L',r,gl,zl,bl⟩:=ztY hn ha hf k (g2.pas hn ha M2.lt) (z2.pas g2 ha M2) pA hH (by lia) (by rw[hZ];exact hN);rw[hZ]at bl;exact⟨m+2,L',.step h0 g.row q9! M b1 c1 (.step h4 g2.row g2.len M2 b2 c2 r),gl,zl,bl⟩
theorem column{b:Nat} {L:Tb} (hn:a9!) (ha:a<n) (hf:∀L:Tb,aA!=n->(∃k,a<k/\k<n/\dj!≠0)->Mn n a (f L) L) (g:Gd n T L) (z:Zr n a L) (hb:∀i,i<n->∀j,dB! L i j<2 ^ b) (lE:b<=1990): ∃m L',Lr f n a m L L'/\Gd n T L'/\Zr n (a+1) L'/\∀i,i<n->∀j,dB! L' i j<2 ^ (am! (a+1<n) (4*b+2) b):=by
 have pe:2 ^ b<=2 ^ (am! (a+1<n) (4*b+2) b):=_C (by decide) (by split<;>lia);rcases zfW (n:=n) (a:=a) (L:=L) with h0 | h0;·exact⟨0,L,.done h0,g,z.up h0,lH! (_j (hb i hi j) pe)⟩
 ·have pB:a+1<n:=by obtain⟨k,h1,h2,_⟩:=h0;lia
  rw[_i pB];have M:=hf L q9! h0;have S:=zeF g ha M hb;have e:2 ^ (2*b+2)*4 ^ b=2 ^ (4*b+2):=by
   rw[show 4=2 ^ 2 from rfl,<- Nat.pow_mul,<- _bY];congr 1;lia
  have p8:2 ^ b<=C8:=_C (by decide) (by lia);have p2:2 ^ b<=C2:=_C (by decide) (by lia);obtain⟨m,L',r,gl,zl,bl⟩:=ztY hn ha hf b (g.pas hn ha lG!) (z.pas g ha M) S (hb _ lG! a) (by lia) (by rw[e];exact _C (by decide) (by lia));rw[e]at bl;exact⟨m+1,L',.step h0 g.row q9! M (lH! (_j (hb i hi j) p8)) (λi _ hi=>_j (hb i hi a) p2) r,gl,zl,bl⟩
end
structure Bk(n:Nat)(T L:Tb)(m:Nat):g! where
 len:aA!=n
 row:∀r∈L,aK!=n+n
 lk:∀r∈L,pX!=mv (ye T) mG!
 tri:∀c k,c<k->k<n->eT! k c=0
 dia:∀k,k<m->dB! L k k=1
 un:∀c,m<=c->c<n->∀k,k<n->eT! k c=ai! k c 1 0
noncomputable def scl(a:Nat)(L:Tb):Tb:=j4! a ((d6!).map λx=>x*b4! a)
noncomputable def bk(a:Nat):Nat->Tb->Tb
 | 0,L=>L | j+1,L=>let M:=bk a j L;M.set j (z0E (at2 M j a) (M.getD a []) (M.getD j []))
section
variable {n a m:Nat}{T L:Tb}
theorem Bk.rl(g:Bk n T L m){k:Nat}(hk:k<n):q! dN!=n+n:=ot! _ (hb! (by rw[g.len];exact hk))
theorem z8g(a:Nat):∀(j:Nat)(L:Tb),q! (bk a j L)=aA!
 | 0,L=>rfl | j+1,L=>by simp[bk,z8g a j L]
theorem zgI{a:Nat}{L:Tb}:∀(j:Nat),j<=a->a<aA!->∀k,h3! (bk a j L) k=am! (k<j) (z0E dj! d6! dN!) dN!
 | 0,_,_,k=>by rw[_q (by omega)];rfl | j+1,h,hl,k=>by
  have ih:=zgI j (by omega) hl;simp only[bk];have ea:h3! (bk a j L) a=d6!:=by rw[ih,_q (by omega)]
  have ej:h3! (bk a j L) j=cx! j:=by rw[ih,_q (by omega)]
  have e2:at2 (bk a j L) j a=b4! j:=by rw[at2,ej];rfl
  rw[uk _ _ _ _ (by rw[z8g];omega),ea,ej,e2];split;·rename_i e;subst e;rw[_i (by omega)]
  ·rename_i ne;rw[ih k];by_cases hk:k<j;·rw[_i hk,_i (by omega)]
   ·rw[_q hk,_q (by omega)]
theorem zh3(d:Int):∀(c r:List Int),dot c (nd! (λx=>x*d))=dot c r*d:=λc r=>z9p d c r
theorem zdh(d:Int)(r:i!):∀C:Tb,mv C (nd! (λx=>x*d))=(mv C r).map λx=>x*d
 | []=>rfl | c::C=>by
  have:=zdh d r C;simp only[mv,_u]at this ⊢;rw[this,zh3]
theorem zg7(d:Int)(r:i!)(j:Nat):bj! (nd! (λx=>x*d)) j=cL! j*d:=by
 simp only[_n,_A];cases r[j]? <;> simp
theorem zkJ(g:Bk n T L (a+1))(ha:a<n)(k j:Nat):at2 (scl a L) k j=ai! k a (eT! a j*b4! a) (eT! k j):=by
 unfold at2 scl;rw[uk _ _ _ _ (by rw[g.len];exact ha)];by_cases e:k=a
 ·subst e;rw[gU!,gU!,zg7];rfl
 ·rw[_q (λz=>e js!),_q e]
theorem Bk.row_at(g:Bk n T L (a+1))(ha:a<n){c:Nat}(hc:c<n)(ne:c≠a):eT! a c=0:=by
 rcases Nat.lt_or_gt_of_ne ne with h | h;·exact g.tri c a h ha
 ·rw[g.un c h hc a ha,_q (by omega)]
theorem step_at(g:Bk n T L (a+1))(ha:a<n)(k j:Nat)(hk:k<n):at2 (bk a a (scl a L)) k j=am! (k<a) (eT! k j-dj!*(eT! a j*b4! a)) (ai! k a (eT! a j*b4! a) (eT! k j)):=by
 have lS:a<q! (scl a L):=by simp[scl,g.len];exact ha
 have e:=zkJ g ha;rw[at2,zgI a al! lS];split
 ·rename_i h;rw[z2R]
  ·have e1:=e k j;have e2:=e a j;have e3:=e k a;rw[_q (by omega)]at e1 e3;rw[gU!]at e2;rw[show bj! (h3! (scl a L) k) j=at2 (scl a L) k j from rfl,show bj! (h3! (scl a L) a) j=at2 (scl a L) a j from rfl,e1,e2,e3]
  ·simp only[scl];rw[uk _ _ _ _ (by rw[g.len];exact ha),uk _ _ _ _ (by rw[g.len];exact ha),gU!,_q (by omega),_z,g.rl ha,g.rl hk]
 ·exact e k j
theorem Bk.step(g:Bk n T L (a+1)) (ha:a<n):Bk n T (bk a a (scl a L)) a:=by
 have dd:b4! a*b4! a=1:=by
  have:=g.dia a (by omega);rcases Int.natAbs_eq_iff.mp iP! with h | h<;>rw[h]<;>rfl
 have ra:∀r,r=(d6!).map (λx=>x*b4! a)->aK!=n+n/\pX!=mv (ye T) mG!:=λr e=>by
  subst e;have m:=hb! (by rw[g.len];exact ha);refine⟨by rw[_z,g.rl ha],?_⟩;rw[<- _cn,<- _aU,zdh,g.lk _ m]
 have rs:∀r∈scl a L,aK!=n+n/\pX!=mv (ye T) mG!:=c9! (by
  rcases _B hr with h | h;·exact⟨ot! r h,g.lk r h⟩
  ·exact ra r h)
 have lS:q! (scl a L)=n:=by simp[scl,g.len]
 have all:∀j,j<=a->∀r∈bk a j (scl a L),aK!=n+n/\pX!=mv (ye T) mG!:=by
  intro j;induction j with
  | zero=>exact bf! rs | succ j ih=>
   intro hj r hr;have ih:=ih (by omega);simp only[bk]at hr;rcases _B hr with h | rfl;·exact ih r h
   ·have m1:=getD_mem (L:=bk a j (scl a L)) (by rw[z8g,lS];exact ha);have m2:=getD_mem (L:=bk a j (scl a L)) (k:=j) (by rw[z8g,lS];omega);obtain⟨l1,k1⟩:=ih _ m1;obtain⟨l2,k2⟩:=ih _ m2;refine⟨by rw[z5k (by omega)];exact l2,?_⟩;rw[z6z,zbm,zc2 (by rw[_ax,_ax,l1,l2]),k1,k2]
 have e:=step_at g ha;refine⟨by rw[z8g,lS],c9! (all a al! r hr).1,c9! (all a al! r hr).2,λc k h1 h2=>?_,λk hk=>?_,λc h1 h2 k hk=>?_⟩
 ·rw[e k c h2,g.tri c k h1 h2];by_cases hc:c=a;·subst hc;rw[_q (by omega),_q (by omega)]
  ·rw[g.row_at ha (by omega) hc];simp
 ·rw[e k k (by omega),_i hk,g.row_at ha (by omega) (by omega)];simp;exact g.dia k (by omega)
 ·rw[e k c hk];by_cases hc:c=a
  ·subst hc;rw[dd];split;·rw[_q (by omega)];omega
   ·split;·rfl
    ·rename_i h3 h4;exact g.tri c k (by omega) hk
  ·rw[g.row_at ha h2 hc];have u:=g.un c (by omega) h2 k hk;split;·rw[u];simp
   ·split;·rename_i h4;subst h4;rw[_q (λz=>hc js!)];simp
    ·exact u
theorem zmq{b:Nat}(g:Bk n T L (a+1))(ha:a<n)(hb:∀i,i<n->∀j,dB! L i j<2 ^ b):∀i,i<n->∀j,dB! (bk a a (scl a L)) i j<2 ^ (2*b+1):=lH! (by
 have d1:=g.dia a (by omega);have ea:bg! (eT! a j*b4! a)=dB! L a j:=by rw[_aJ,d1,Nat.mul_one]
 have p:2 ^ (2*b+1)=2*(2 ^ b*2 ^ b):=by rw[_dN,Nat.two_mul,_bY];omega
 have h1:=hb i hi j;have h2:2 ^ b<=2 ^ b*2 ^ b:=_bZ _ (_cx b);rw[step_at g ha i j hi,p];split
 ·have h3:bg! (b4! i*(eT! a j*b4! a))<2 ^ b*2 ^ b:=by rw[_aJ,ea];exact _ch (hb i hi a) (hb a ha j)
  omega
 ·split;·have:=hb a ha j;omega
  ·omega)
end
theorem ziv(a b:i!):dot a b=dot b a:=by
 unfold dot;rw[List.zipWith_comm];simp only[Int.mul_comm]
theorem zgr{n:Nat}{A B:Tb}(hn:a9!)(ha:h7!)(hb:eW! B):A.map (mv (ye B))=qV A B:=by
 rw[z04 hn ha hb];exact _ao λr _=>_ao λc _=>ziv c r
section
variable {n:Nat}{T L:Tb}
theorem zjZ(hn:a9!)(hT:gZ!)(hf:z0a T)(g:Bk n T L 0):sz! n=gL! T:=by
 have tB:eW! (sz! n):=⟨by simp[g.len],c9! (by
  obtain⟨x,hx,rfl⟩:=jI!;simp[ot! x hx])⟩;have e1:oi! rk!=bu!:=by
  apply _dc;intro k;by_cases hk:k<n
  ·have hl:k<aA!:=by rw[g.len];exact hk
   rw[_A,_b hl,one,_A,_aF hk];simp only[_ag,_y];apply _dc;intro c;have el := ot! _ (_G hl);by_cases hc:c<n
   ·have u:=g.un c g1! hc k hk;have ga:eT! k c=L[k][c]'(by lia):=by simp[at2,_b hl,_b (show c<q! (L[k]) by lia)]
    rw[ga]at u;rw[_ak hc,_b (by lia),u,_A,_aF hc];rfl
   ·rw[_M (by simp;lia),_M (by simp;lia)]
  ·rw[_M (by simp[g.len];lia),_M (by simp[one];lia)]
 have e2:qV (sz! n) T=bu!:=by
  rw[<- zgr hn tB hT,<- e1,_ae];exact _ao (c9! (g.lk r hr).symm)
 have b:=z72 hn hT hf;have h3:=assoc hn tB hT (z0V hT);rw[e2,b.2,(z5d hn (z0V hT)).1,(z5d hn tB).2]at h3;exact h3.symm
noncomputable def lay(T:Tb):Tb:=kJ! (λa b=>a++b) T (one br!)
theorem zoU(hn:a9!) (hT:gZ!) (hf:z0a T):Gd n T (lay T):=by
 have ln:q! (lay T)=n:=by simp[lay,one,hT.len]
 have hd:jG! 4 T=1:=by rcases hf with h | h<;>rw[h]<;>rfl
 have at_:∀r∈lay T,∃k,∃h:k<T.length,∃h':k<(one n).length,r=T[k]++bu![k]:=c9! (by
  unfold lay at hr;rw[hT.len]at hr;obtain⟨k,hk,e⟩:=ge! hr;rw[List.length_zipWith]at hk;rw[_bD]at e;exact⟨k,by lia,by lia,e.symm⟩)
 have lT:∀(k:Nat) (h:k<T.length),q! (T[k])=n:=λk h=>hT.row _ (_G h);have tk:(lay T).map rk!=T/\(∀r∈lay T,aK!=n+n)/\∀r∈lay T,pX!=mv (ye T) mG!:=by
  refine⟨_aL (by rw[_z,ln,hT.len]) (nn! ?_),c9! ?_,c9! ?_⟩
  ·rw[_bG];simp only[lay,_bD];exact List.take_left' (lT k h2)
  ·obtain⟨k,h,h',rfl⟩:=at_ r hr;rw[_ar,lT k h,(z3A n).row _ (_G h')]
  ·obtain⟨k,h,h',rfl⟩:=at_ r hr;rw[List.take_left' (lT k h),List.drop_left' (lT k h)];have e:=a4! (zgr hn (z3A n) hT) (z5d hn hT).1;have e2:=_bG (l:=bu!) (mv (ye T)) (i:=k) (h:=by rw[_z];exact h');rw[<- e2];exact (List.getElem_of_eq e _).symm
 exact⟨ln,tk.2.1,tk.2.2,by rw[tk.1];exact hd⟩
theorem zqE{b:Nat}(hn:a9!)(hT:gZ!)(hb:Bd b T)(b1:1<=b):∀i,i<n->∀j,dB! (lay T) i j<2 ^ b:=lH! (by
 have h2:1<2 ^ b:=Nat.one_lt_two_pow (by lia);have all:∀r∈lay T,∀x∈r,do! b:=λr hr x hx=>by
  simp only[lay]at hr;obtain⟨k,hk,e⟩:=ge! hr;rw[_bD]at e;subst e;rcases nX! hx with h | h;·exact hb _ (_G _) x h
  ·simp only[one,_bG,_t]at h;obtain⟨c,_,rfl⟩:=h;split<;>simp<;>lia
 unfold at2;have ln:i<q! (lay T):=by simp[lay,one,hT.len];exact hi
 exact z5T (all _ (hb! ln)) j)
theorem Gd.bk(g:Gd n T L)(hn:a9!)(z:Zr n n L):Bk n T L n:=by
 have tri := λc k h1 h2=>z c (by lia) k h1 h2;have tk:∀k c,c<n->bj! (h3! (oi! rk!) k) c=eT! k c:=λk c hc=>by
  rw[getD_map];simp[at2,_ak hc]
 refine⟨q9!,g.row,g.lk,tri,λk hk=>?_,λc h1 h2=>by lia⟩;have:=zo3 hn g.tab (λc k h1 h2=>by rw[tk k c (by lia)];exact tri c k h1 h2) g.dt k hk;rw[tk k k hk]at this;exact this
end
end Pb
namespace Pt
open L2 Dd Pm Pg Pn Po Pr
structure Lt(n b:Nat)(v:i!):g! where
 lot:a2!
 le:∀x∈v,x<=h! b
end Pt
namespace Pv
open L2 Dd Pm Pg Pn Po Pr Pt
end Pv
namespace Pv
open L2 Dd Pm Pg Pn Po Pr Pt
end Pv
namespace aY
open L2 Dd Pm Pg Pn Po Pb
noncomputable def rL(r:i!):D:=e1! r
theorem z38(r:i!):(rL r).flat=c!:=by
 unfold rL;simp only[D.flat];induction r with
 | nil=>rfl | cons x r ih=>simp only[_u,Bool.true_and]at ih ⊢;exact ih
theorem zdT:∀L:Tb,da! ml!
 | []=>rfl | r::L=>by simp only[_u,D.flat.flats,z38,zdT L,Bool.and_self]
theorem xA(s:Sto)(x:v!):E! (s++[x]) cm! x:=by simp
theorem z62(s:Sto)(x y:v!):(s++[x]).set cm! y=s++[y]:=by simp
theorem qM{L:Tb}{s:Sto}{l k:Nat}(h:E! s l ml!)(hk:k<aA!):c1! dK! k s=j! (rL dN!):=by
 refine zal h (by lia) ?_;rw[_A,_V,_b hk,_n,_b hk];rfl
theorem zmU{r:i!}{s:Sto}{j:Nat}(hj:j<aK!):c1! (rL r) j s=t! (cL! j):=by
 refine wV (by lia) ?_;rw[_A,_V,_b hj,_n,_b hj];rfl
theorem el2{L:Tb}{s:Sto}{ρ:Ev}{a b c l k j:Nat}(h:E! s l ml!)(ha:E! ρ a N!)(hb:E! ρ b bk!)(hc:E! ρ c aH!)(hk:k<aA!)(hj:j<q! dN!): eOp dIx (ax! a b) (zd c) ρ s=t! (eT! k j):=by
 rw[op2 (by rw[op2 (vr ha) (vr hb),qM h hk]) (vr hc),zmU hj];rfl
theorem zip_rows:∀h r:List Int,z42 (iL h) (iL r)=jE! h r (iX! (bW! p.1 p.2))
 | [],_=>by simp[z42] | _::_,[]=>by simp[z42] | a::h,b::r=>by
  have:=zip_rows h r;simp only[_u,z42,_bo]at this ⊢;rw[this]
theorem zg1(q:Int):∀h r:List Int,jE! h r (λp=>aD! (p.2-q*p.1))=iL (z0E q h r)
 | [],_=>by simp[z0E] | _::_,[]=>by simp[z0E] | a::h,b::r=>by
  have:=zg1 q h r;simp only[z0E,_bo,_u,_aQ]at this ⊢;rw[this]
theorem zdo{L:Tb} {s:Sto} {ρ:Ev} {l k:Nat} {q:Int} {h:i!} (hs:E! s l ml!) (h2:E! ρ 2 N!) (h6:E! ρ 6 (hj! h)) (h7:E! ρ 7 bk!) (h8:E! ρ 8 (e! q)) (hk:k<aA!) (hl:h.length<=100) (bq:pE!<2 ^ (2 ^ 16)) (bh:∀x∈h,do! (2 ^ 16)): zt (z4W (aQ! (zd 6) (ax! 2 7))) (dI! 8) (yM 1 2) zX (kt! 2 (et! z7S 0 n!)) ρ s=j! (rL (z0E q h dN!)):=by
 have row:eOp dIx H! (zd 7) ρ s=j! (rL dN!):=by rw[op2 (vr h2) (vr h7),qM hs hk]
 have hi:z4W (aQ! (zd 6) (ax! 2 7)) ρ s=j! (jE! h dN! (iX! (bW! p.1 p.2)),[]):=by simp only[z4W,zy,zP,row,vr h6,Rb,rL,z8m,zip_rows,_aK]
 have e8:wZ (dI! 8) ρ=dI! (d! q):=by simp[h8]
 have:=comp_map (fg:=yM 1 2) (fe:=kt! 2 (et! z7S 0 n!)) (pu! (gJ! (bW! p.1 p.2))) (λp=>aD! (p.2-q*p.1)) (λp=>[e! q,e! p.1,e! p.2]) (rE! h dN!) hi (bq! (by rw[e8];rfl)) (bq! (by
   have m:eOp z7S o! n! [e! q,e! p.1,e! p.2] s=t! (q*p.1):=by
    rw[iu! u!];exact zgB bq (bh _ (l6!).1) s
   rw[iu! m];rfl)) (by simp[cap];lia);rw[this,zg1];rfl
noncomputable def V9(t:D)(n l:Nat)(x3 x4 x5 x6 x7 x8:fD!):Ev:=[b! t,bv!,N!,x3,x4,x5,x6,x7,x8]
noncomputable def z31(n a:Nat)(L:Tb):jJ!:=fO! (aR! (n-a) (λk=>a+k)) (λk=>cK! dj! 0)
noncomputable def prs(n a:Nat)(L:Tb):Tb:=(z31 n a L).map λk=>[h! (fq! k),h! k]
noncomputable def z8I(n a:Nat)(L:Tb):Nat:=match z7U [] (ad! (bC! (prs n a L))) with
 | some (.tup [_,.int i]::_)=>i.toNat | _=>0
theorem z25{n a k:Nat}{L:Tb}:k∈z31 n a L ↔ a<=k/\k<n/\dj!≠0:=by
 simp only[z31,_bp,_t,_aN,_ay];constructor;·rintro⟨⟨j,h,rfl⟩,z⟩;exact⟨by lia,by lia,z⟩
 ·rintro⟨h1,h2,z⟩;exact as! ⟨k-a,by lia,by lia⟩ z
theorem zj3(n a:Nat)(L:Tb):(z31 n a L).Nodup:=by
 refine List.Pairwise.filter _ (_df _ (λx y h=>?_) List.nodup_range);intro z;exact h (by lia)
theorem zae(n a:Nat)(L:Tb):q! (z31 n a L)<=n-a:=_H (List.length_filter_le _ _) (by simp)
theorem zhi{n a:Nat}{L:Tb}(hn:n<=4)(h:∃k,a<k/\k<n/\dj!≠0):∃(G:Tb),z7U [] (ad! (bC! (prs n a L)))=b! (bC! (([h! (fq! (z8I n a L)),h! (z8I n a L)])::G))/\Mn n a (z8I n a L) L:=by
 have nd:(prs n a L).Nodup:=by
  refine _df _ (λx y h z=>h ?_) (zj3 n a L);simp at z;have:=z.2;lia
 have ln:q! (prs n a L)<64:=by have:=zae n a L;simp only[prs,_z];lia
 obtain⟨G,e,up,mem,gl⟩:=Pr.zjr (d:=ad! (bC! (prs n a L))) rfl nd (y! ln) (λv hv=>by
  simp only[prs,_t]at hv;obtain⟨k,_,rfl⟩:=hv;simp);obtain⟨k0,h1,h2,h3⟩:=h;have m0 := (mem _).mpr (_t.mpr ⟨k0,z25.mpr ⟨by lia,h2,h3⟩,rfl⟩);cases G with
 | nil=>simp at m0 | cons g G=>
  have mg:=(mem g).mp jP!;simp only[prs,_t]at mg;obtain⟨f,hf,rfl⟩:=mg;obtain⟨f1,f2,f3⟩:=z25.mp hf;have ef:z8I n a L=f:=by
   unfold z8I;rw[e];simp[rD]
  rw[ef];refine⟨G,e,f1,f2,f3,λk k1 k2 k3=>?_⟩;have mk := (mem _).mpr (_t.mpr ⟨k,z25.mpr ⟨k1,k2,k3⟩,rfl⟩);rcases eK! mk with z | z;·simp at z;lia
  ·have:=(List.pairwise_cons.mp up).1 _ z;simp only[lexN]at this;split at this;·lia
   ·have:=_de iP!;lia
section
variable {t:D}{n a:Nat}{L:Tb}{s:Sto}{x4 x5 x6 x7 x8:fD!}
theorem zgd(s:Sto)(xs:v!):z7U s cq!=z7U [] cq!:=rfl
theorem zgH{f g:FE}{ρ:Ev}{s:Sto}{i j:Nat}(hf:aM!=t! i)(hg:g ρ s=t! j)(hi:dv! i)(hj:dv! j):zcg (aQ! f g) ρ s=j! ((aR! (j-i) (λk=>i+k)).map (fW! k),[]):=by
 simp only[zmH,zy,zP,hf,hg,Rb];rw[_i (by lia)];simp only[_ae];rw[show fc! (h! j-i)=j-i by lia];congr 2
theorem zrN(hn:n<=4) (ha:a<n) (hl:aA!=n) (hr:∀r∈L,aK!=n+n):vd (ga! x6) be!=D! (dp! t n (e! a) (L! ((z31 n a L).map (fW! k))) x5 x6 x7 x8) be!:=by
 have hs:=xA s ml!;have c:zt (zcg (cn! ba! 1)) (fm! 3 2) (yh 2) (hq! (df! (ax! 1 2) o!) C!) H! (ga! x6) be!=gy! (ad! ((z31 n a L).map (fW! k))):= xX (fW! k) (fW! k) (λk=>cK! dj! 0) (λk=>[e! a,W!,bk!]) (aR! (n-a) (λk=>a+k)) (zgH u! u! (by lia) (by lia)) (λk _=>rfl) (λk hk=>by
    obtain⟨j,hj,rfl⟩:=_t.mp hk;have hj:=_aN.mp hj;have e:=el2 (ρ:=[e! a,W!,e! (Z! (a+j))]) (a:=1) (b:=2) (c:=0) hs rfl rfl rfl (by lia) (by rw[oP! _ (by lia)];lia);rw[z2q];rw[op2 e (z0Z ..),zcm]) (λk _ _=>u!) (by simp[cap];lia);rw[vd,zN,c];rfl
end
section
variable {t:D}{n a:Nat}{L:Tb}{s:Sto}{x4 x5 x6 x7 x8:fD!}
theorem zs2(hn:n<=4) (ha:a<n) (hl:aA!=n) (hr:∀r∈L,aK!=n+n) (h:∃k,a<k/\k<n/\dj!≠0):vf (dp! t n (e! a) (L! ((z31 n a L).map (fW! k))) x5 x6 x7 x8) be!=D! (dp! t n (e! a) (L! ((z31 n a L).map (fW! k))) (e! (z8I n a L)) x6 x7 x8) be!:=by
 have hs:=xA s ml!;have c:zt (zT (zd 4)) (fm! 3 2) (yh 2) zX (cF! (a0! zkD (df! (ax! 1 2) o!)) H!) (dp! t n (e! a) (L! ((z31 n a L).map (fW! k))) x5 x6 x7 x8) be!=gy! (ad! (bC! (prs n a L))):=by
  have:=comp_map (fi:=zT (zd 4)) (mp:=fm! 3 2) (fg:=yh 2) (fe:=cF! (a0! zkD (df! (ax! 1 2) o!)) H!) (ρ:=dp! t n (e! a) (L! ((z31 n a L).map (fW! k))) x5 x6 x7 x8) (s:=be!) (fW! k) (λk:Nat=>rD [h! (fq! k),h! k]) (λk=>[e! a,W!,bk!]) (z31 n a L) (qN u!) (λk _=>rfl) (λk hk=>by
    obtain⟨k1,k2,k3⟩:=z25.mp hk;have e:=el2 (ρ:=[e! a,W!,e! (h! k)]) (a:=1) (b:=2) (c:=0) hs rfl rfl rfl (by lia) (by rw[oP! _ (by lia)];lia);have e1:=xi (M:=zkD) e;simp only[zkD]at e1;simp only[z22,zy,zP,e1,vr (ρ:=[e! a,W!,e! (h! k)]) (i:=2) rfl,Rb];rw[_i (by simp[cap]),show (am! (dj!<0) (-dj!) dj!)=h! (fq! k) by lia];rfl) (by have:=zae n a L;simp[cap];lia);rw[this];simp only[prs,_ae];rfl
 obtain⟨G,eG,M⟩:=zhi hn h;have e2:ze zao (bI! (kg! (zT (zd 4)) (fm! 3 2) 2 (cF! (a0! zkD (df! (ax! 1 2) o!)) H!))) (dp! t n (e! a) (L! ((z31 n a L).map (fW! k))) x5 x6 x7 x8) be!=gy! (ad! (bC! (([h! (fq! (z8I n a L)),h! (z8I n a L)])::G))):=by
  rw[xi c];simp only[zao];rw[zgd,eG]
 have e3:∀(x:Int) (f:Nat),c1! (ad! (bC! ([x,h! f]::G))) 0 be!=gy! (rD [x,h! f]):=λx f=>wV (by decide) rfl;have e4:∀(x:Int) (f:Nat),c1! (rD [x,h! f]) 1 be!=gy! (d! f):=λx f=>rfl;have e5:=a4! (op2 e2 (z0Z _ _ c4!)) (e3 _ _);rw[vf,zN,a4! (op2 e5 (z0Z _ _ (d! 1))) (e4 _ _)];rfl
theorem zrh{f:Nat}(hf:f<aA!):vx (dp! t n (e! a) x4 (e! f) x6 x7 x8) be!=D! (dp! t n (e! a) x4 (e! f) (hj! (cx! f)) x7 x8) be!:=by
 rw[vx,zN,iu! u!,qM (xA s ml!) hf];rfl
theorem ztU{f:Nat}(hf:f<aA!)(ha:a<aA!):vk (dp! t n (e! a) x4 (e! f) x6 x7 x8) be!=D! (dp! t n (e! a) x4 (e! f) x6 x7 x8) (s++[f1! (j4! f d6!)]):=by
 rw[vk,z2e (by rw[iu! u!,qM (xA s ml!) ha]) u! u! (xA s _) (by lia) (by simp;lia) (z38 _),z62,_bb];rfl
theorem ztC{r:i!}(ha:a<aA!):vA (ga! (hj! r)) be!=D! (ga! (hj! r)) (s++[f1! (j4! a r)]):=by
 rw[vA,z2e u! u! u! (xA s _) (by lia) (by simp;lia) (z38 _),z62,_bb];rfl
theorem zon{k:Nat} {hd:i!} (hk:k<aA!) (hr:∀r∈L,a<aK!) (ha:a<hd.length) (nz:jH! 0≠0) (bd:bg! (jH! 0)<BIG):uf (hB! l9! bk! x8) be!=D! (hB! l9! bk! (e! ((dj!).fdiv (jH! 0)))) be!:=by
 have e:=el2 (ρ:=hB! l9! bk! x8) (a:=2) (b:=7) (c:=3) (xA s _) rfl rfl rfl hk (oP! _ hk);have e2:eOp dIx (zd 6) ba! (hB! l9! bk! x8) be!=gy! (d! (jH! 0)):=by rw[iu! u!,zmU ha]
 rw[uf,zN,op2 e e2,zju nz bd];rfl
theorem zq4{k:Nat}{q:Int}{hd:i!}(hk:k<aA!)(hl:hd.length<=100)(bq:pE!<2 ^ (2 ^ 16))(bh:∀x∈hd,do! (2 ^ 16)):ui (hB! l9! bk! (e! q)) be!=D! (hB! l9! bk! (e! q)) (s++[f1! (j4! k (z0E q hd dN!))]):=by
 rw[ui,z2e (zdo (xA s _) rfl rfl rfl rfl hk hl bq bh) u! u! (xA s _) (by lia) (by simp;lia) (z38 _),z62,_bb];rfl
end
theorem pw{b c:Nat}(h:b<=c):2 ^ b<=2 ^ c:=_C (by decide) h
theorem zuS{x:Nat}(h:x<C2):x<BIG:=_j h (pw (by decide))
theorem zrA{x:Nat}(h:x<C2):x+1<2 ^ (2 ^ 16):=_a4 h (Nat.pow_lt_pow_right (by decide) (by decide))
theorem zrW{x:Nat}(h:x<C8):x<2 ^ (2 ^ 16):=_j h (pw (by decide))
theorem zcb{L:Tb}{k:Nat}{x:Int}(h:x∈dN!):∃j,x=eT! k j:=by
 obtain⟨j,hj,e⟩:=ge! h;exact⟨j,by rw[at2,_n ,_b hj];exact e.symm⟩
section
variable {t:D}{n a:Nat}{L:Tb}{s:Sto}{x4 x5 x6 x7 x8:fD!}
theorem zqi{hd:i!} (hn:n<=4) (ha:a<n) (hl:aA!=n) (hr:∀r∈L,aK!=n+n) (hh:hd.length=n+n) (nz:jH! 0≠0) (bd:bg! (jH! 0)<C2) (bh:∀x∈hd,iS!<C8) (bc:∀k,a<k->k<n->fq! k<C2): ∃y7 y8,wF (ga! l9!) be!=D! (hB! l9! y7 y8) (s++[f1! (kx! a (n-1-a) L)]):=by
 have hi:zcg (cn! (gt! 3) 1) (ga! l9!) be!=gy! ((aR! (n-(a+1)) (λk=>a+1+k)).map (fW! k),[]):= zgH (by rw[iu! (z0Z ..),z65];rfl) u! (by lia) (by lia);obtain⟨ρ',s',e,y7,y8,e1,e2⟩:=z17 (body:=ee! (yh 7 d ρ s) ((zx uf ui) ρ' s')) (λj ρ S=>∃y7 y8,ρ=hB! l9! y7 y8/\S=s++[f1! (kx! a j L)]) ((aR! (n-(a+1)) (λk=>a+1+k)).map (fW! k)) 0 (λj x hx ρ S hI=>by
   obtain⟨y7,y8,rfl,rfl⟩:=hI;rw[_as];have hj:j<n-(a+1):=by have:=cM! hx;simpa using this
   have ex:x=d! (Z! (a+1+j)):=by
    rw[_A,_A,_aF hj]at hx;exact (_p hx).symm
   have len:q! (kx! a j L)=n:=by rw[z2i,hl]
   have get:=z57 (a:=a) (hd:=hd) (L:=L) j (by lia);have bv:∀r∈kx! a j L,a<aK!:=λr cU=>by
    obtain⟨k,hk,e⟩:=ge! cU;have e':r=h3! (kx! a j L) k:=by rw[_n,_b hk];exact e.symm
    rw[e',get];have lk:=hr _ (getD_mem (k:=k) (by lia));split;·rw[z5k (by lia)];lia
    ·lia
   have ek:at2 (kx! a j L) (a+1+j) a=b4! (a+1+j):=by rw[at2,get,_q (by lia)];rfl
   have f1:=zon (t:=t) (n:=n) (s:=s) (x4:=x4) (x5:=x5) (x8:=y8) (k:=a+1+j) (by lia) bv (by lia) nz (zuS bd);have q:=(fd (x:=b4! (a+1+j)) nz).2.2.1;have bq:bg! ((at2 (kx! a j L) (a+1+j) a).fdiv (jH! 0))<2 ^ (2 ^ 16):=by
    rw[ek];have h1:=zrA (bc (a+1+j) (by lia) (by lia));have h0:1<=bg! (jH! 0):=by lia
    refine _a4 ?_ h1;generalize bg! ((b4! (a+1+j)).fdiv (jH! 0))=Q at q ⊢;generalize bg! (jH! 0)=Hh at q h0;generalize fq! (a+1+j)=X at q;apply _Y;intro z;have h2:(X+2)*Hh<=Q*Hh:=_aB _ (by lia);have h3:X<=X*Hh:=_bZ _ h0;rw[_c9]at h2;lia
   have f2:=zq4 (t:=t) (n:=n) (a:=a) (L:=kx! a j L) (s:=s) (x4:=x4) (x5:=x5) (k:=a+1+j) (hd:=hd) (by lia) (by lia) bq (ae! (zrW (bh x hx)));refine⟨_,_,?_,e! (Z! (a+1+j)),e! ((at2 (kx! a j L) (a+1+j) a).fdiv (jH! 0)),rfl,rfl⟩;rw[ex,va,Rb];exact a4! (zm f1) f2) (ga! l9!) be! (fg! x7 x8 rfl);refine aV! y7 y8 ?_;rw[wF,qE,hi,Rb];refine qu! ?_;rw[e1,e2];simp only[_z,_c8,_as];rw[show n-(a+1)=n-1-a by lia]
theorem znY(hn:n<=4)(ha:a<n)(hl:aA!=n)(hr:∀r∈L,aK!=n+n)(h:∃k,a<k/\k<n/\dj!≠0)(b1:∀i,i<n->∀j,dB! L i j<C8)(b2:∀i,a<=i->i<n->fq! i<C2): ∃y4 y5 y6 y7 y8,zx vd (dE! vf vx vk vA wF) (ga! x6) be!=D! (dp! t n (e! a) y4 y5 y6 y7 y8) (s++[f1! (pas n a (z8I n a L) L)]):=by
 obtain⟨_,_,M⟩:=zhi hn h;rw[zm (zrN hn ha hl hr),zm (zs2 hn ha hl hr h)];have fl:=M.lt;have pC:=M.le;have pE:=M.nz;generalize z8I n a L=f at *;have fT:f<aA!:=by lia
 rw[zm (zrh fT),zm (ztU fT (by lia)),zm (ztC (by simp;lia))];have eg:∀k,h3! ((j4! f d6!).set a (cx! f)) k=ai! a k (cx! f) (ai! f k d6! dN!):=λk=>by rw[uk _ _ _ _ (by simp;lia),uk _ _ _ _ fT]
 obtain⟨y7,y8,e⟩:=zqi (L:=(j4! f d6!).set a (cx! f)) hn ha (by simp[hl]) (λr cU=>by
   rcases _B cU with h | rfl
   ·rcases _B h with h | rfl;·exact hr r h
    ·exact oP! _ (by lia)
   ·exact oP! _ fT) (oP! _ fT) pE (b2 f pC fl) (ae! (by
   obtain⟨j,rfl⟩:=zcb hx;exact b1 f fl j)) (nn! (by
   rw[at2,eg,_q (by lia)];split;·exact b2 a al! ha
   ·exact b2 k (by lia) h2));exact⟨_,_,_,y7,y8,e⟩
theorem zfJ(hn:n<=4) (ha:a<n) (hl:aA!=n) (hr:∀r∈L,aK!=n+n):∃b,tOf (eOp dNe (zt (zT (e2! H! (gt! 3))) (ag! 3) cj! (hq! (gq! 1) C!) n!) (kQ zj)) (ga! x6) be!=gy! b/\(b=c! ↔ ∃k,a<k/\k<n/\dj!≠0):=by
 have sl:eSl H! (yt (gt! 3)) zC (ga! x6) be!=gy! (ad! (f1! (pF! (a+1)))):=by
  have e1:yt (gt! 3) (ga! x6) be!=gy! (b! (Z! (a+1))):=by
   unfold yt;rw[iu! (z0Z ..),z65];rfl
  simp only[eSl,vr (ρ:=ga! x6) (i:=2) rfl,e1,Rb,zC,dSl,Dd.listOf,xA];rw[z5s,_aU]
 have c:=xX (mp:=ag! 3) (fg:=cj!) (ft:=hq! (gq! 1) C!) (fe:=n!) rL rL (λr=>cK! (cL! a) 0) (λr=>[e! a,hj! r]) (pF! (a+1)) (qN sl) (λr _=>rfl) (λr cU=>by
   have e:eOp dIx n! o! [e! a,hj! r] be!=gy! (d! (cL! a)):=by rw[iu! u!,zmU (by rw[hr r (_aC cU)];lia)]
   rw[z2q];rw[op2 e (z0Z ..),zcm]) (λr _ _=>u!) (by simp[cap];lia);have ok:okD 2 (ad! (f1! (fO! (pF! (a+1)) (λr=>cK! (cL! a) 0))))=c!:=by
  simp only[okD,_T];intro x hx;obtain⟨r,_,rfl⟩:=iZ!;simp[rL,okD,_T]
 refine bM! (z2q (by rw[op2 c (by simp;rfl)];exact ne_nil ok (by decide) _)) ?_;simp only[List.isEmpty_map];constructor
 ·intro h;cases q:fO! (pF! (a+1)) (λr=>cK! (cL! a) 0) with
  | nil=>rw[q]at h;simp at h | cons r w=>
   have m:r∈fO! (pF! (a+1)) (λr=>cK! (cL! a) 0):=by rw[q];exact jP!
   obtain⟨m1,m2⟩:=_bp.mp m;obtain⟨i,hi,e⟩:=ge! m1;rw[List.getElem_drop]at e;have pF:a+1+i<aA!:=by simp at hi;lia
   refine⟨a+1+i,by lia,by lia,?_⟩;rw[at2,_n (l:=L),_b pF];show bj! (L[a+1+i]) a≠0;rw[e];exact _de m2
 ·rintro⟨k,h1,h2,h3⟩;have hk:k<aA!:=by lia
  have m:dN!∈fO! (pF! (a+1)) (λr=>cK! (cL! a) 0):=by
   refine _bp.mpr ⟨?_,_a5 h3⟩;rw[_n,_b hk];exact _o.mpr ⟨k-(a+1),by simp;lia,by rw[List.getElem_drop];simp only[_aD];congr 1;lia⟩
  cases q:fO! (pF! (a+1)) (λr=>cK! (cL! a) 0) with
  | nil=>rw[q]at m;simp at m | cons=>rfl
theorem ziD(hn:n<=4)(ha:a<n):∀{m:Nat}{L L':Tb}{x4 x5 x6 x7 x8:Option D},aA!=n->(∀r∈L,aK!=n+n)->Lr (z8I n a) n a m L L'->∃y4 y5 y6 y7 y8,uT (ga! x6) be!=D! (dp! t n (e! a) y4 y5 y6 y7 y8) (s++[rt!]):=by
 intro m L L' x4 x5 x6 x7 x8 hl hr lr;have key:∃y4 y5 y6 y7 y8,wO (hq! (zt (zT (e2! H! (gt! 3))) (ag! 3) cj! (hq! (gq! 1) C!) n!) (kQ zj)) (zx vd (dE! vf vx vk vA wF)) (m+1) (ga! x6) be!=D! (dp! t n (e! a) y4 y5 y6 y7 y8) (s++[rt!]):=by induction lr generalizing x4 x5 x6 x7 x8 with
  | @done L h=>
   obtain⟨b,e,hb⟩:=zfJ hn ha hl hr;have:b=r!:=by cases b with
    | false=>rfl | true=>obtain⟨k,h1,h2,h3⟩:=hb.mp rfl;exact bS! (h k h1 h2) h3
   subst this;refine⟨x4,x5,x6,x7,x8,?_⟩;simp only[wO];rw[e];rfl | @step m L L' h r l M b1 b2 q ih=>
   obtain⟨b,e,hb⟩:=zfJ hn ha hl hr;have := hb.mpr h;subst this;obtain⟨z4,z5,z6,z7,z8,p⟩:=znY hn ha hl hr h b1 b2;have len:q! (pas n a (z8I n a L) L)=n:=by simp[pas,z2i,hl]
   have bv:∀r∈pas n a (z8I n a L) L,aK!=n+n:=by
    have all:∀j,a+1+j<=n->∀r∈elim a (cx! (z8I n a L)) j ((j4! (z8I n a L) d6!).set a (cx! (z8I n a L))),aK!=n+n:=by
     have hf:q! (cx! (z8I n a L))=n+n:=oP! _ (by have:=M.lt;lia);intro j;induction j with
     | zero=>
      intro _ r cU;rcases _B cU with h | rfl
      ·rcases _B h with h | rfl;·exact hr r h
       ·exact oP! _ (by lia)
      ·exact hf | succ j ih=>
      intro hj r cU;simp only[elim]at cU;rcases _B cU with h | rfl;·exact ih (by lia) r h
      ·have:=ih (by lia) _ (getD_mem (k:=a+1+j) (by rw[z2i];simp;lia));rw[z5k (by lia)];exact this
    exact all _ (by lia)
   obtain⟨y4,y5,y6,y7,y8,w⟩:=ih len bv;refine⟨y4,y5,y6,y7,y8,?_⟩;rw[wO,e,Rb];simp only[_v];rw[p,Rb];exact w
 obtain⟨y4,y5,y6,y7,y8,w⟩:=key;exact⟨y4,y5,y6,y7,y8,by rw[uT];exact z2B w (by simp)⟩
end
def bt:Nat->Nat
 | 0=>106 | 1=>426 | 2=>1706 | _=>6826
theorem zhZ{a n:Nat}(hn:n<=4)(ha:a<n):(am! (a+1<n) (4*bt a+2) (bt a))<=bt (a+1):=by rcases (show a=0\/a=1\/a=2\/a=3 by lia) with rfl | rfl | rfl | rfl<;>split<;>simp only[bt]<;>lia
section
variable {t:D}{n:Nat}{T L:Tb}{s:Sto}{x3 x4 x5 x6 x7 x8:fD!}
theorem ztt(hn:a9!) (g:Gd n T L) (hb:∀i,i<n->∀j,dB! L i j<2 ^ 106):∃L' y3 y4 y5 y6 y7 y8,jT (dp! t n x3 x4 x5 x6 x7 x8) be!=D! (dp! t n y3 y4 y5 y6 y7 y8) (s++[rt!])/\Bk n T L' n/\∀i,i<n->∀j,dB! L' i j<2 ^ 6826:=by
 have n4:n<=4:=by unfold Sz at hn;lia
 obtain⟨ρ',s',e,L',y3,y4,y5,y6,y7,y8,e1,e2,g',z',b'⟩:=z17 (all:=ym n) (body:=ee! (yh 3 d ρ s) (uT ρ' s')) (λa ρ S=>∃L' y3 y4 y5 y6 y7 y8,ρ=dp! t n y3 y4 y5 y6 y7 y8/\S=s++[rt!]/\Gd n T L'/\Zr n a L'/\∀i,i<n->∀j,dB! L' i j<2 ^ bt a) (ym n) 0 (λa x hx ρ S hI=>by
   obtain⟨L1,y3,y4,y5,y6,y7,y8,rfl,rfl,g1,z1,b1⟩:=hI;obtain⟨ha,rfl⟩:=z2G hx;rw[_as]at z1 b1;rw[_as];have hf:∀L:Tb,aA!=n->(∃k,a<k/\k<n/\dj!≠0)->Mn n a (z8I n a L) L:=λL _ h=>by
    obtain⟨_,_,M⟩:=zhi (n:=n) (a:=a) (L:=L) n4 h;exact M
   have fin:∃m L2,Lr (z8I n a) n a m L1 L2/\Gd n T L2/\Zr n (a+1) L2/\∀i,i<n->∀j,dB! L2 i j<2 ^ bt (a+1):=by
    by_cases h3:a+1<n
    ·obtain⟨m,L2,lr,g2,z2,b2⟩:=column (f:=z8I n a) hn ha hf g1 z1 b1 (by rcases (show a=0\/a=1\/a=2 by lia) with rfl | rfl | rfl<;>decide);exact⟨m,L2,lr,g2,z2,lH! (_j (b2 i hi j) (pw (zhZ n4 ha)))⟩
    ·have z:∀k,a<k->k<n->at2 L1 k a=0:=nn! (by lia)
     refine⟨0,L1,.done z,g1,z1.up z,lH! (_j (b1 i hi j) (pw ?_))⟩;have:=zhZ n4 ha;rw[_q h3]at this;exact this
   obtain⟨m,L2,lr,g2,z2,b2⟩:=fin;obtain⟨w4,w5,w6,w7,w8,e⟩:=ziD (t:=t) (s:=s) (x4:=y4) (x5:=y5) (x6:=y6) (x7:=y7) (x8:=y8) n4 ha g1.len g1.row lr;exact⟨_,_,by rw[va,Rb];exact e,L2,_,w4,w5,w6,w7,w8,rfl,rfl,g2,z2,b2⟩) (dp! t n x3 x4 x5 x6 x7 x8) be! ⟨L,x3,x4,x5,x6,x7,x8,rfl,rfl,g,λc hc=>by lia,hb⟩;have ln:q! (ym n)=n:=by simp[ym]
 rw[ln,_as]at z' b';refine⟨L',y3,y4,y5,y6,y7,y8,?_,g'.bk hn z',lH! (_j (b' i hi j) (pw ?_))⟩
 ·have hi:jw (cw! 1) (dp! t n x3 x4 x5 x6 x7 x8) be!=gy! (ym n,[]):=by
   simp only[zdX,zy,zP,vr (ρ:=dp! t n x3 x4 x5 x6 x7 x8) (i:=1) (d:=d! n) rfl,Rb];rw[_i (by lia),_V]
  rw[jT,qE,hi,Rb];exact qu! (by rw[e1,e2])
 ·rcases hn with rfl | rfl | rfl<;>decide
theorem zgF(d:Int)(r:i!):(nd! (λx=>aD! (x*d)))=iL (nd! (λx=>x*d)):=by simp[iL]
theorem zp9{a:Nat} (ha:a<aA!) (hr:a<q! d6!) (hl:q! d6!<=100) (b1:∀j,dB! L a j<2 ^ (2 ^ 16)):ur (ga! x6) be!=D! (ga! x6) (s++[f1! (scl a L)]):=by
 have c:=comp_map (fi:=zT (ax! 2 3)) (mp:=fm! 3 2) (fg:=yh 2) (fe:=et! z7S 2 (df! (gq! 1) o!)) (ρ:=ga! x6) D.int (λx=>aD! (x*b4! a)) (λx=>[e! a,W!,e! x]) d6! (qN (by rw[iu! u!,qM (xA s _) ha];rfl)) (λx _=>rfl) (ae! (by
   have e:=el2 (ρ:=[e! a,W!,e! x]) (a:=1) (b:=0) (c:=0) (xA s _) rfl rfl rfl ha hr;obtain⟨j,rfl⟩:=zcb hx;rw[iu! e];exact zgB (b1 j) (b1 a) _)) (_H hl (by decide));rw[zgF]at c;rw[ur,z2e (d:=rL ((d6!).map λx=>x*b4! a)) c u! u! (xA s _) (by lia) (by simp;lia) (z38 _),z62,_V,<- _bb];rfl
theorem zq7{a:Nat} (hn:n<=4) (ha:a<n) (hl:aA!=n) (hr:∀r∈L,aK!=n+n) (b1:∀i,i<n->∀j,dB! L i j<2 ^ (2 ^ 16)): ∃y6 y7 y8,ud (ga! x6) be!=D! (hB! y6 y7 y8) (s++[f1! (bk a a L)]):=by
 obtain⟨ρ',s',e,y6,y7,y8,e1,e2⟩:=z17 (body:=ee! (yh 7 d ρ s) ((bh! uo uv ub) ρ' s')) (λj ρ S=>∃y6 y7 y8,ρ=hB! y6 y7 y8/\S=s++[f1! (bk a j L)]) (ym a) 0 (λj x hx ρ S hI=>by
   obtain⟨y6,y7,y8,rfl,rfl⟩:=hI;obtain⟨hj,rfl⟩:=z2G hx;rw[_as];have len:q! (bk a j L)=n:=by rw[z8g,hl]
   have get:=zgI (a:=a) (L:=L) j (by lia) (by lia);have ga:h3! (bk a j L) a=d6!:=by rw[get,_q (by lia)]
   have gj:h3! (bk a j L) j=cx! j:=by rw[get,_q (by lia)]
   have ej:at2 (bk a j L) j a=b4! j:=by rw[at2,gj];rfl
   have la:=hr _ (getD_mem (k:=a) (by lia));have lj:=hr _ (getD_mem (k:=j) (by lia));have f1:uo (hB! y6 aH! y8) (s++[f1! (bk a j L)])=D! (hB! (hj! d6!) aH! y8) (s++[f1! (bk a j L)]):=by
    rw[uo,zN,iu! u!,qM (xA s _) (by lia),ga];rfl
   have f2:uv (hB! (hj! d6!) aH! y8) (s++[f1! (bk a j L)])=D! (hB! (hj! d6!) aH! (e! (b4! j))) (s++[f1! (bk a j L)]):=by
    have e:=el2 (s:=s++[f1! (bk a j L)]) (ρ:=hB! (hj! d6!) aH! y8) (a:=2) (b:=7) (c:=3) (xA s _) rfl rfl rfl (by lia) (by rw[gj];lia);rw[uv,zN,e,ej];rfl
   have f3:ub (hB! (hj! d6!) aH! (e! (b4! j))) (s++[f1! (bk a j L)])=D! (hB! (hj! d6!) aH! (e! (b4! j))) (s++[f1! (bk a (j+1) L)]):=by
    have c:=zdo (s:=s++[f1! (bk a j L)]) (ρ:=hB! (hj! d6!) aH! (e! (b4! j))) (xA s _) rfl rfl rfl rfl (by lia) (by lia) (b1 j (by lia) a) (ae! (by
     obtain⟨i,rfl⟩:=zcb hx;exact b1 a ha i));rw[ub,z2e c u! u! (xA s _) (by lia) (by simp;lia) (z38 _),z62,_V,<- _bb];simp only[bk,ga,ej]
   refine⟨_,_,?_,hj! d6!,aH!,e! (b4! j),rfl,rfl⟩;rw[va,Rb];exact hf! (zm f1) (zm f2) f3) (ga! x6) be! (bn! x6 x7 x8 rfl);have ln:q! (ym a)=a:=by simp[ym]
 refine ck! y6 y7 y8 ?_;have hi:jw (cw! 3) (ga! x6) be!=gy! (ym a,[]):=by
  simp only[zdX,zy,zP,vr (ρ:=ga! x6) (i:=3) (d:=f2!) rfl,Rb];rw[_i (by lia),_V]
 rw[ud,qE,hi,Rb];refine qu! ?_;rw[e1,e2,ln,_as]
end
def bu:Nat->Nat
 | 0=>6826 | j+1=>2*bu j+1
theorem zeT{i n j:Nat}{x:D}(h:E! (vC (h! i-1) n) j x)(hi:n<=i):j<n/\x=d! (Z! (i-1-j)):=by
 have hj:j<n:=by have:=cM! h;simpa[vC] using this
 refine as! hj ?_;simp only[vC,_A,_aF hj,_ag,_y]at h;rw[<- h];congr 1;lia
section
variable {t:D}{n:Nat}{T L:Tb}{s:Sto}{x3 x4 x5 x6 x7 x8:fD!}
theorem zpH(hn:a9!) (g:Bk n T L n) (hb:∀i,i<n->∀j,dB! L i j<2 ^ 6826):∃L' y3 y4 y5 y6 y7 y8,jj (dp! t n x3 x4 x5 x6 x7 x8) be!=D! (dp! t n y3 y4 y5 y6 y7 y8) (s++[rt!])/\Bk n T L' 0:=by
 have n4:n<=4/\2<=n:=by unfold Sz at hn;lia
 obtain⟨ρ',s',e,L',y3,y4,y5,y6,y7,y8,e1,e2,g',b'⟩:=z17 (all:=vC (h! n-1) n) (body:=ee! (yh 3 d ρ s) ((zx ur ud) ρ' s')) (λj ρ S=>∃L' y3 y4 y5 y6 y7 y8,ρ=dp! t n y3 y4 y5 y6 y7 y8/\S=s++[rt!]/\Bk n T L' (n-j)/\∀i,i<n->∀k,dB! L' i k<2 ^ bu j) (vC (h! n-1) n) 0 (λj x hx ρ S hI=>by
   obtain⟨L1,y3,y4,y5,y6,y7,y8,rfl,rfl,g1,b1⟩:=hI;obtain⟨hj,rfl⟩:=zeT hx al!;rw[_as]at g1 b1;rw[_as];have ha:n-1-j<n:=by lia
   rw[show n-j=n-1-j+1 by lia]at g1;have wide:bu j<=2 ^ 16:=by rcases (show j=0\/j=1\/j=2\/j=3 by lia) with rfl | rfl | rfl | rfl<;>decide
   have bw:∀i,i<n->∀k,dB! L1 i k<2 ^ (2 ^ 16):=λi hi k=>_j (b1 i hi k) (pw wide);generalize ea:n-1-j=a at *;have la:=g1.rl ha;have f1:=zp9 (t:=t) (n:=n) (s:=s) (x4:=y4) (x5:=y5) (x6:=y6) (x7:=y7) (x8:=y8) (L:=L1) (a:=a) (by rw[g1.len];exact ha) (by lia) (by lia) (bw a ha);have sl:q! (Pb.scl a L1)=n:=by simp[Pb.scl,g1.len]
   have sr:∀r∈Pb.scl a L1,aK!=n+n:=c9! (by
    rcases _B hr with h | rfl;·exact g1.row r h
    ·rw[_z,la])
   have d1:=g1.dia a (by lia);obtain⟨z6,z7,z8,f2⟩:=zq7 (t:=t) (n:=n) (s:=s) (x4:=y4) (x5:=y5) (x6:=y6) (x7:=y7) (x8:=y8) (L:=Pb.scl a L1) (a:=a) n4.1 ha sl sr (λi hi k=>by
    rw[zkJ g1 ha];split;·rw[_aJ,d1,Nat.mul_one];exact bw a ha k
    ·exact bw i hi k);refine⟨_,_,by rw[va,Rb];exact a4! (zm f1) f2,bk a a (Pb.scl a L1),_,y4,y5,z6,z7,z8,rfl,rfl,?_,zmq g1 ha b1⟩;rw[show n-(j+1)=a by lia];exact g1.step ha) (dp! t n x3 x4 x5 x6 x7 x8) be! ⟨L,x3,x4,x5,x6,x7,x8,rfl,rfl,g,hb⟩;have ln:q! (vC (h! n-1) n)=n:=by simp[vC]
 rw[ln,_as,_dL]at g';refine⟨L',y3,y4,y5,y6,y7,y8,?_,g'⟩;have hi:zfC (zb (kt! 1 ao!) (aQ! d1! d1!)) (dp! t n x3 x4 x5 x6 x7 x8) be!=gy! (vC (h! n-1) n,[]):=by
  have c1:eOp z7r n! ao! (dp! t n x3 x4 x5 x6 x7 x8) be!=gy! (d! (h! n-1)):=by rw[op2 (x:=d! n) (y:=d! 1) u! (z0Z ..),zfE]
  have c2:z1V ao! (dp! t n x3 x4 x5 x6 x7 x8) be!=gy! (d! (-1)):=rfl;simp only[znb,zy,zP,c1,c2,Rb];rw[_i (by lia)];congr 3;lia
 rw[jj,qE,hi,Rb];exact qu! (by rw[e1,e2])
theorem zkh(T:Tb):∀U:Tb,z42 nu! (U.map rD)=jE! T U (iX! [rD p.1,rD p.2]):=by induction T with
 | nil=>intro U;simp[z42] | cons a T ih=>
  intro U;cases U with
  | nil=>simp[z42] | cons b U=>simp only[_u,z42,_bo,ih U]
theorem zgQ(T:Tb):∀U:Tb,jE! T U (λp=>rL (p.1++p.2))=f1! (kJ! (λa b=>a++b) T U):=by induction T with
 | nil=>intro U;simp | cons a T ih=>
  intro U;cases U with
  | nil=>simp | cons b U=>simp only[_bo,_u,_aQ,ih U]
theorem zrK(hn:a9!) (hT:gZ!):kG [cc! T,bv!,a!,a!,a!,a!,a!,a!,a!] s=D! (dp! (tD T) n a! a! a! a! a! a!) (s++[f1! (lay T)]):=by
 have n4:n<=4:=by unfold Sz at hn;lia
 have pl:ze Pg.xr (cw! 1) [cc! T,bv!,a!,a!,a!,a!,a!,a!,a!] s=gY! bu!:=by rw[xi u!];exact zdY n4 s
 have hi:z4W (aQ! o! (cy! Pg.xr 1)) [cc! T,bv!,a!,a!,a!,a!,a!,a!,a!] s=j! (jE! T bu! (iX! [rD p.1,rD p.2]),[]):=by
  simp only[z4W,zy,vr (ρ:=[cc! T,bv!,a!,a!,a!,a!,a!,a!,a!]) (i:=0) rfl,pl,Rb];show ep! (z42 nu! (bC! bu!),[]++[]) s=_;rw[zkh];rfl
 have c:=z78 (mp:=i9!) (fg:=yM 0 1) (fe:=bd! (a6! z76) (cy! z76 1)) (λp:List Int×List Int=>gJ! [rD p.1,rD p.2]) (λp=>rL (p.1++p.2)) (λp=>[b1! p.1,b1! p.2]) (rE! T bu!) hi (λp _=>rfl) (bq! (by
   have e1:ze z76 (cw! 0) [b1! p.1,b1! p.2] s=j! (rL p.1):=by rw[xi u!];rfl
   have e2:ze z76 (cw! 1) [b1! p.1,b1! p.2] s=j! (rL p.2):=by rw[xi u!];rfl
   obtain⟨m1,m2⟩:=l6!;have l1:=hT.row _ m1;have l2:=(z3A n).row _ m2;rw[op2 e1 e2];simp only[rL,zdB];rw[_i (by simp[cap];lia)];simp[iL])) (by simp[cap,hT.len];lia) (by rw[zgQ];exact zdT _);rw[zgQ]at c;rw[kG,zN,c];simp only[lay,hT.len];rfl
theorem zpI(r:i!)(n:Nat)(s:Sto):dSl (rL r) (b! (h! n)) a! s=j! (rL mG!):=by
 simp only[rL,dSl,Dd.listOf];rw[z5s];simp[_aU]
theorem zqm(hl:aA!=n) (hn:n<=4):jl (dp! t n x3 x4 x5 x6 x7 x8) be!=gy! (.rt (tD (sz! n))):=by
 have hi:zT H! (dp! t n x3 x4 x5 x6 x7 x8) be!=gy! (ml!,[(cm!,ml!)]):=by
  rw[jm,u!,Rb];simp only[xA]
 have c:=zgi (mp:=b9!) (fg:=cj!) (fe:=pM! (e2! n! o!)) rL (λr=>rD mG!) (λr=>[bv!,hj! r]) L hi (bq! (by
   simp only[_bk]at hp;subst hp;exact xA s _)) (λr _=>rfl) (λr _=>by
   have e:eSl n! (yt o!) zC [bv!,hj! r] be!=gy! (rL mG!):=by
    have e1:yt o! [bv!,hj! r] be!=gy! (b! (h! n)):=by
     unfold yt;rw[u!];rfl
    simp only[eSl,vr (ρ:=[bv!,hj! r]) (i:=1) rfl,e1,Rb,zC,zpI]
   rw[xi e];rfl) (by simp[cap,hl];lia);rw[jl,yf,xi c];simp[zU,zY,_ae]
theorem zoy(hn:a9!) (hT:gZ!) (hf:z0a T) (hb:Bd 106 T) (s:Sto):qw [tD T] s=gY! (gL! T):=by
 have n4:n<=4:=by unfold Sz at hn;lia
 have key:∀d:D,d=tD T->qw [d] s=gY! (gL! T):=iM! (by
  have st:zv [jw!,fR!,kI!,eQ!,"_law_good","_law_first","_law_head",cv!,if!] [d]=[k!,a!,a!,a!,a!,a!,a!,a!,a!]:=rfl;have f1:jW [k!,a!,a!,a!,a!,a!,a!,a!,a!] s=aO! [k!,bv!,a!,a!,a!,a!,a!,a!,a!]:=by
   rw[jW,zN,xi u!,hd];simp[yH,zY,hT.len]
  have f2:=zrK (s:=s) hn hT;rw[<- hd]at f2;obtain⟨L1,y3,y4,y5,y6,y7,y8,f3,g1,b1⟩:=ztt hn (zoU hn hT hf) (zqE hn hT hb (by decide));obtain⟨L2,z3,z4,z5,z6,z7,z8,f4,g2⟩:=zpH hn g1 b1;have f5:=zqm (t:=d) (s:=s) (x3:=z3) (x4:=z4) (x5:=z5) (x6:=z6) (x7:=z7) (x8:=z8) g2.len n4;rw[zjZ hn hT hf g2]at f5;simp only[qw,z6k,Mof,z3T,st,_h,_l,_v];rw[zm f1,zm f2,zm f3,zm f4,f5];simp only;rw[z11 (z8u _)];simp)
 exact key _ rfl
end
theorem run_eq:km=z0U:=rfl
noncomputable def L8(a0 a1 a2 a3 a4 a5 a6 a7:fD!):Ev:=[a0,a1,a2,a3,a4,a5,a6,a7]
theorem z6g{n m:Nat}{r:Rl}{x:i!}{B:Int}{G:gm! Nat v!}{all:v!}{a0 a1 a2 a3 a6 a7:fD!}{S:Sto}(og:okG G all S)(hn:a9!)(hB:B<2 ^ m)(hm:m<=hN!)(hx:∀y∈x,y<=B){c:i!}{ls:ff!}(Rn:f8! c):∀(P:Tb)(z:Option D),ow! m c->PI n B P c x-> ∃z',yL G all (ee! (yh 5 d ρ s) (uc ρ' s')) fl! (L8 a0 a1 a2 a3 (cc! P) z a6 a7) S=D! (L8 a0 a1 a2 a3 (cc! ((jC!).foldl qV P)) z' a6 a7) S:=by induction Rn with
 | done he=>intro P z h I;exact⟨z,by simp[zK,yL,og]⟩ | @step v ls he R2 ih=>
  intro P z h I;have tb:=z0X r dA! he;have mm:=zmx S hn I.tab tb (zmQ I hB) (zhd r h he) (by lia) (by lia);rw[<- zjL]at mm;obtain⟨z',ih⟩:=ih (qV P fN!) ku! (oY! he) (I.step r hx dA! he);refine as! z' ?_;have body:uc (L8 a0 a1 a2 a3 (cc! P) ku! a6 a7) S=D! (L8 a0 a1 a2 a3 (cc! (qV P fN!)) ku! a6 a7) S:=by rw[uc,zN,nv! u!,mm];rfl
  rw[R2.tabs_cons,_u,yL,_i og,va,Rb];simp only[L8,_L,_E]at body ih ⊢;rw[body,Rb];simp only;rw[ih];rfl
theorem z8F:∀(B:Tb)(k:Nat),z1Y k (lF! rD)=(ra! k).map (iX! [d! (Z! p.2),rD p.1])
 | [],k=>rfl | x::B,k=>by simp[z1Y,z8F B (k+1)]
theorem zhE:∀{z:List Int} {k j:Nat} {g:Int},j<=k->jM! (k-j)=g->0<g->(∀i,i+j≠k->jM! i=0)->(fO! (z.zipIdx j) (λp=>bw! (p.1 > 0))).map (λp=>aD! (Z! p.2))=[aD! k]
 | [],k,j,g,_,h1,h2,_=>by simp at h1;lia | x::z,k,j,g,hj,h1,h2,h3=>by
  rcases _aS hj with q | q
  ·have x0:x=0:=by have:=h3 0 (by lia);simpa using this
   have ih:=zhE (k:=k) (j:=j+1) (by lia) (by rw[show k-j=k-(j+1)+1 by lia]at h1;simpa using h1) h2 (eP! (by have:=h3 (i+1) (by lia);simpa using this));simp only[x0];simpa using ih
  ·subst q;have x1:x=g:=by simpa using h1
   have z0:∀p∈z.zipIdx (j+1),¬ p.1 > 0:=bq! (by
    obtain⟨i,hi,e⟩:=ge! hp;have e1:p.1=jM! i:=by
     rw[<- e,List.getElem_zipIdx];simp only[List.length_zipIdx]at hi;simp[hi]
    rw[e1];have:=h3 (i+1) (by lia);simp at this;simp[this])
   have nil:fO! (z.zipIdx (j+1)) (λp=>bw! (p.1 > 0))=[]:=_bl.mpr (bq! (by simpa using z0 p hp))
   simp only[_bH,_aE,nil];rw[_i (by simp[x1];exact h2)];rfl
theorem zei{α:bL!}(f:α->D):∀(B:List α)(j:Nat),(ra! j).map (λp=>f p.1)=lF! f
 | [],_=>rfl | x::B,j=>by simp only[_bH,_u,zei f B (j+1)]
theorem zry{xs:v!}{i:Int}{d:D}{s:Sto}(h0:0<=i)(h:E! xs jq! d):c1! ah! i s=j! d:=by
 have hj:=cM! h;have e:kQ! i=b! jq!:=by
  unfold ixN;rw[_i h0,_i (by lia)]
 simp only[dIx,zY,atI,e,_N,h]
theorem zoR{xs:v!}{l:Nat}{d:D}{s:Sto}(hs:E! s l xs)(h:xs.getLast? = k!):c1! dK! (-1) s=j! d:=by
 rw[List.getLast?_eq_getElem?]at h;have hj:=cM! h;have e:kQ! (-1)=b! (x!-1):=by
  unfold ixN;rw[_q (by lia),_i (by lia)];congr 1;lia
 simp only[dIx,zY,hs,atI,e,_N,h]
theorem ze9{α:bL!}(f:α->D):∀(B:List α)(k j:Nat),j<=k->(fO! (ra! j) (λp=>bw! (Z! p.2≠h! k))).map (λp=>f p.1)=(B.eraseIdx (k-j)).map f
 | [],k,j,_=>by simp | x::B,k,j,hj=>by
  rcases _aS hj with q | q
  ·have ih:=ze9 f B k (j+1) (by lia);simp only[_bH,_aE];rw[_i (by simp;lia),show k-j=k-(j+1)+1 by lia];simp only[_u,List.eraseIdx_cons_succ,ih]
  ·subst q;have all:fO! (ra! (j+1)) (λp=>bw! (Z! p.2≠h! j))=ra! (j+1):=_bO.mpr (bq! (by
    have:=List.le_snd_of_mem_zipIdx hp;simp;lia))
   simp only[_bH,_aE,all,_dL,List.eraseIdx_cons_zero];rw[_q (by simp)];exact zei f B (j+1)
section
variable {n:Nat}{v:i!}{r:Rl}{ls:ff!}{z:i!}{k:Nat}{B:Tb}{b:i!}
theorem znT(h:l5!) (S:Sh r n v ls z k B b) (s:Sto):uz [bE!,az!] s=bt! (aU!::bC! he!):=by
 have n4:2<=n/\n<=4:=by have:=h.sz;unfold Sz at this;lia
 have key:hM! (d=bE!->e=az!->uz [d,e] s=bt! (aU!::bC! he!)):=q3! (by
  have st:zv [fS!,dW!,pp!,pq!,"_law_whole_here",jw!,gf!,eQ!] [d,e]=L8 k! z! a! a! a! a! a! a!:=rfl;have lr:=zqS r h S.run (by decide) S.len s;rw[<- hd,<- he]at lr;have f1:jh (L8 k! z! a! a! a! a! a! a!) s=D! (L8 k! z! W! jg! a! a! a! a!) (s++eH! fl!):=by
   rw[jh,zhK,nv! u!,run_eq,lr,Rb];rfl
  have f2:jq (L8 k! z! W! jg! a! a! a! a!) (s++eH! fl!)=D! (L8 k! z! W! jg! (cc! bu!) a! a! a!) (s++eH! fl!):=by
   have gl:∀s,yH [e] s=t! n:=λs=>by rw[he];simp[yH,zY,h.len]
   rw[jq,zN,xi (by rw[xi u!,gl]),zdY n4.2];rfl
  have g2:E! (s++eH! fl!) (cm!+1) fl!:=z9h.2;obtain⟨b5,lp⟩:=z6g (G:=[(cm!+1,fl!)]) (by
    intro p hp;simp only[_J,List.not_mem_nil,or_false]at hp;subst hp;exact g2) h.sz (B:=2 ^ 104-1) (by decide) (by decide) (cW! (by have:=h.bd y hy;lia)) S.run bu! none h (PI.start dA! (cW! (by have:=h.bd y hy;lia)));have f3:jn (L8 k! z! W! jg! (cc! bu!) a! a! a!) (s++eH! fl!)=D! (L8 k! z! W! jg! (cc! hD!) b5 a! a!) (s++eH! fl!):=by
   rw[jn,qE,jm,u!,Rb];simp only[g2,Rb];exact lp
  have f5:jf (L8 k! z! W! jg! (cc! hD!) b5 a! a!) (s++eH! fl!)=D! (L8 k! z! W! jg! (cc! hD!) b5 (cc! B) a!) (s++eH! fl!):=by
   have mb:=zoy jy! S.ptab S.fair (λx hx y hy=>_j (S.pbd x hx y hy) (pw (by decide))) (s++eH! fl!);rw[<- S.B_]at mb;rw[jf,zN,xi u!,mb];rfl
  generalize hA:fl!=A at *;generalize tD hD!=P at *;have g1:E! (s++eH! A) cm! pH!:=z9h.1;have f6:jt (L8 k! z! W! jg! (b! P) b5 (cc! B) a!) (s++eH! A)=D! (L8 k! z! W! jg! (b! P) b5 (cc! B) bk!) (s++eH! A):=by
   have el:eOp dIx H! d1! (L8 k! z! W! jg! (b! P) b5 (cc! B) a!) (s++eH! A)=.ok (rD z) (s++eH! A):=by
    rw[iu! rfl];exact zoR g1 (by rw[List.getLast?_map,S.last];rfl)
   have c:=xX (mp:=i9!) (fg:=yM 0 1) (ft:=gP! dGt n! C!) (fe:=o!) (λp:Int×Nat=>gJ! (bW! (Z! p.2) p.1)) (λp=>aD! (Z! p.2)) (λp=>bw! (p.1 > 0)) (λp=>[e! (Z! p.2),e! p.1]) (z.zipIdx 0) (z94 el) (λp _=>rfl) (λp _=>by
     refine z2q ?_;rw[iu! rfl];simp) (λp _ _=>u!) (by have:=S.lot.len;simp[cap];lia);rw[zhE g1! S.zk S.g0 (eP! (S.zo i (by lia)))]at c;rw[jt,zN,op2 c rfl];rw[show c1! (ad! [aD! k]) 0 (s++eH! A)=.ok (d! k) (s++eH! A) from rfl];rfl
  have f7:js (L8 k! z! W! jg! (b! P) b5 (cc! B) bk!) (s++eH! A)=.ok (.rt (ad! (aU!::bC! he!))) (s++eH! A):=by
   have e1:kQ (bI! (ax! 6 7)) (L8 k! z! W! jg! (b! P) b5 (cc! B) bk!) (s++eH! A)=.ok (ad! [aU!]) (s++eH! A):=by
    have e0:eOp dIx (zd 6) (zd 7) (L8 k! z! W! jg! (b! P) b5 (cc! B) bk!) (s++eH! A)=.ok aU! (s++eH! A):=by
     rw[iu! u!];exact zry (by lia) (by rw[_A,_V,S.at_];rfl)
    simp only[zdR,zy,zP,e0,Rb];rw[_i (by simp[cap])]
   have c:=xX (fi:=z20 (cw! 6)) (mp:=dI! 7) (fg:=yM 1 2) (ft:=eg! 1 o!) (fe:=H!) (ρ:=L8 k! z! W! jg! (b! P) b5 (cc! B) bk!) (s:=s++eH! A) (λp:List Int×Nat=>gJ! [d! (Z! p.2),rD p.1]) (λp=>rD p.1) (λp=>bw! (Z! p.2≠h! k)) (λp=>[bk!,e! (Z! p.2),b1! p.1]) (ra! 0) (by simp only[z20,zy,zP,vr (ρ:=L8 k! z! W! jg! (b! P) b5 (cc! B) bk!) (i:=6) (d:=tD B) rfl,Rb,z8m,tD,z8F]) (λp _=>rfl) (λp _=>by
     refine z2q ?_;rw[op2 (x:=d! (Z! p.2)) (y:=d! k) u! u!,zcm]) (λp _ _=>u!) (by have:=S.tab.len;simp[cap];lia);rw[ze9 rD B k 0 g1!,Nat.sub_zero]at c;rw[js,yf,op2 e1 c,zdB,_i (by have:=S.tab.len;have:=List.length_eraseIdx_le B k;simp[cap];lia)];rfl
  simp only[uz,z6k,Mof,z2D,st,_h,_l,_v];rw[zm f1,zm f2,zm f3,zm f5,zm f6,f7];simp only;rw[z11];·simp
  ·exact z8u (b::he!))
 exact key _ _ rfl rfl
end
theorem ze2(s:Sto):wG [.exc g5!] s=j! (aI! aB!):=by kernel_rfl
theorem zfH(s:Sto):wG [.exc g6!] s=j! (aI! c8!):=by kernel_rfl
theorem zhw{w:Int}{d e:D}{s s':Sto}{r:D}(h:xG [e! w,k!,z!,a!] s=cg! (.rt r)):zI [d! w,d,e] s=cg! r:=by
 have st:zv ["_law_way",ed!,dV!,pA!] [d! w,d,e]=hy! (d! w) d e:=rfl;simp only[zI,Mof,z0w,st,_h,_l,_v,jN,zpL];rw[h]
theorem zcQ{w:Int}{d e:D}{s:Sto}{c x:Str}(hc:c∈rsX)(hk:wG [.exc c] s=j! aY!)(h:xG [e! w,k!,z!,a!] s=em!):zI [d! w,d,e] s=j! aY!:=by
 have st:zv ["_law_way",ed!,dV!,pA!] [d! w,d,e]=hy! (d! w) d e:=rfl;have e':jM (i8! (ox! 4) 3 (.exc c)) s=j! (.rt aY!):=by rw[jM,yf,xi (by rfl),hk];rfl
 simp only[zI,Mof,z0w,st,_h,_l,_v,jN,zpL];rw[h];simp only[_i hc,Nat.reduceAdd];rw[e']
theorem zq3{w:Int}{d e:D}{s:Sto}{x:Str}{X:Mir}(h0:c1! (ad! [.fn m4!,.fn m3!]) w s=j! (.fn x))(hx:r0! [(m4!,vt),(m3!,yO)]=b! X):xG [e! w,k!,z!,a!] s=B! (X [d,e] s) (λr s1=>M! (.rt r)):=by
 have c2:dX! 2<=cap:=by decide
 rw[xG,yf];simp only[zhJ,yy,zdR,zy,zP,z0Z,yi,_c,_d,Rb,_h,_l,_i c2,h0,hx]
theorem zhz{d e:D}{s:Sto}:xG (fE! c4! d z!) s=B! (vt [d,e] s) (λr s1=>M! (.rt r)):=zq3 rfl rfl
theorem zl3{d e:D}{s:Sto}:xG [e! 1,k!,z!,a!] s=B! (yO [d,e] s) (λr s1=>M! (.rt r)):=zq3 rfl rfl
theorem zsZ{n m:Nat}{v:i!}{d:D}{b:Bool}{s:Sto}(h:e5!)(hc:wJ [az!,d,d! f6!] s=bz! b):yO [az!,d] s=bz! b:=by
 have w1:=z7K dA! s;have w2 := zhN.ok (zjH dA! s);have key:∀e:D,xN [e] s=fh!->z5q [e] s=t! f6!->wJ [e,d,d! f6!] s=bz! b->yO [e,d] s=bz! b:=λe a1 a2 a3=>by simp[yO,kX,qf,zv,a1,a2,a3]
 exact key _ w1 w2 hc
theorem zqe{d e:D}{s:Sto}{c:Str}(h:xN [d] s=em!):yO [d,e] s=em!:=by simp[yO,kX,qf,zv,h]
theorem zmJ{d e:D}{s:Sto}{c:Str}(h:zA [d,e] s=em!):yX [d,e] s=em!:=by
 have:=zfb h;simp[yX,kX,ju,zv,this]
theorem z8D{d e:D}{s:Sto}{c:Str}(h:zA [d,e] s=em!):vt [d,e] s=em!:=by
 have:=zmJ h;simp[vt,kX,z1H,zv,this]
theorem z9m:LeM wY z0p:=rp! (rS! z9j) q4!
theorem z7P:LeM uX uV:=rp! (LeS.set (LeE.call z9m)) (LeS.seq (sx! LeS.rfl) (re! q4!))
section
variable {n:Nat}{v:i!}{r:Rl}{ls:ff!}{z:i!}{k:Nat}{B:Tb}{b:i!}
theorem zak(h:l5!)(S:Sh r n v ls z k B b)(s:Sto):yX [bE!,az!] s=gY! B:=by
 have w1:=znZ r h S.run (by decide) S.len s;have w2:=z7P.ok (z8Q s jy! S.ptab S.pbd (by decide) S.fair);rw[<- S.B_]at w2;have key:∀d e P T:D,xb [d,e] s=j! P->uV [P] s=j! T->yX [d,e] s=j! T:=λd e P T a1 a2=>by simp[yX,kX,ju,zv,a1,a2]
 exact key _ _ _ _ w1 w2
theorem zhT(h:l5!) (S:Sh r n v ls z k B b) (s:Sto):vt [bE!,az!] s=j! aU!:=by
 have w1:=zak h S s;have w2:=zcY h S s;have key:hM! (yX [d,e] s=gY! B->(∀x∈B,xQ [rD x,e] s=t! (eD! x))->vt [d,e] s=j! aU!):=λd e a1 a2=>by
  have st:zv dq! [d,e]=hp!:=rfl;have c:=xX (fi:=zT (cU! yX)) (mp:=b9!) (fg:=cj!) (ft:=hq! (eU! xQ n! 0) C!) (fe:=n!) (ρ:=hp!) rD rD (λx=>cK! (eD! x) 0) (λx=>[z!,b1! x]) B (z2K (by rw[nv! u!];exact a1)) (λx _=>by simp) (ae! (by
    refine z2q ?_;rw[op2 (by rw[nv! u!];exact a2 x hx) rfl,zcm])) (λx _ _=>u!) (by have:=S.tab.len;have:=h.sz;unfold Sz at this;simp[cap];lia);rw[S.fn]at c;simp only[vt,kX,z1H,st,z4k,yf];rw[op2 c rfl];have:c1! (ad! [aU!]) 0 s=j! aU!:=wV (by decide) rfl;rw[show List.map rD [b]=[aU!] from rfl,this];rfl
 exact key _ _ w1 w2
end
theorem zkO{n:Nat}{v:i!}{r:Rl}{ls:ff!}{z:i!}{k:Nat}{B:Tb}{b:i!}(h:l5!)(S:Sh r n v ls z k B b)(s:Sto):zI [c4!,bE!,az!] s=j! aU!:= zhw (by rw[zhz,zhT h S s];rfl)
theorem zgY{n m:Nat}{v:i!}{d:D}{b:Bool}{s:Sto}(h:e5!)(hc:wJ [az!,d,d! f6!] s=bz! b):zI [d! 1,az!,d] s=bz! b:= zhw (by rw[zl3,zsZ h hc];rfl)
theorem zbd{d e:D}{s:Sto}(hd:vm [d] s=dZ!):zI [c4!,d,e] s=j! (aI! c8!):= zcQ (by decide +kernel) (zfH s) (by rw[zhz,z8D (zfw hd)];rfl)
theorem ziO{e:D}{s:Sto}(r:Rl)(he:yZ [e] s=dZ!):zI [c4!,bE!,e] s=j! (aI! aB!):= zcQ (by decide +kernel) (ze2 s) (by rw[zhz,z8D (zk8 he)];rfl)
theorem zfL{d e:D}{s:Sto}(hd:yZ [d] s=dZ!):zI [d! 1,d,e] s=j! (aI! aB!):= zcQ (by decide +kernel) (ze2 s) (by rw[zl3,zqe (z2A hd)];rfl)
theorem znO{d x:D}{s:Sto}(h:gIs cV! d s=dZ!):yw [d,x] s=dZ!:=by
 have st:zv [hL!,if!] [d,x]=h2! d x:=rfl;have e1:eIs cV! o! [k!,dJ!] s=dZ!:=by rw[zjO,bi!,Rb,h]
 simp only[yw,Mof,vV,st,vg,yf,_h,_l,_v];rw[z4p,e1];rfl
theorem zp8{d:D} {n:Nat} (hk:Kd d) (hn:dv! n) (s:Sto):yw [d,d! n] s=bz! (z1B n d):=by cases d with
 | tup ys=>
  have st:zv [hL!,if!] [p! ys,d! n]=[b! (p! ys),bv!]:=rfl;simp only[yw,Mof,vV,st,vg,yf];by_cases h:c6!=n
  ·have c:=comp_map (fi:=cN!) (mp:=[a!]) (fg:=yh 0) (fe:=a6! wj) (ρ:=[b! (p! ys),bv!]) (s:=s) (λx=>x) (λx=>D.bl (isI x)) (λx=>[dJ!]) ys (by rw[List.map_id' ys];exact z2K u!) (λx _=>rfl) (ae! (by rw[xi u!];exact z0s (hk x hx) s)) (by simp[cap];lia);have g:=xi (M:=zfs) c;rw[z9i]at g;have h':(h! c6!=n):=by lia
   have e1:eIs cV! o! [b! (p! ys),bv!] s=b3!:=by rw[zjO,bi!];rfl
   have e2:eOp dEq ej! n! [b! (p! ys),bv!] s=b3!:=by simp[yH,zY,h']
   rw[z4p,e1,Rb];simp only[_v];rw[z4p,e2,Rb];simp only[_v];rw[g];simp[z1B,h]
  ·have h':¬ (h! c6!=n):=by lia
   simp[gIs,tyD,isT,yH,zY,h',z1B,h] | scr _=>exact hk.elim | _=>
  have hd:=hk.ty;first
  | (exfalso;simp[tyD]at hd;done) | exact znO rfl
theorem ze7{a0 a1:fD!}{all:v!}(s:Sto):∀(ps:List (Int×Int))(aD:Int)(a b:Option D),(∀p∈ps,bg! p.1<2 ^ 400/\bg! p.2<2 ^ 400)-> ∃a' b',yL [] all (ee! (yM 3 4 d ρ s) (z0T ρ' s')) (oq! (iX! (bW! p.1 p.2))) [a0,a1,e! aD,a,b] s=aO! [a0,a1,e! (aD+(oq! (λp=>p.1*p.2)).sum),a',b']
 | [],aD,a,b,_=>⟨a,b,by simp[yL,okG]⟩ | p::ps,aD,a,b,h=>by
  have hp:=h p jP!;have mm:yS (d! p.1) (d! p.2) s=t! (p.1*p.2):=by
   rw[zfP,_i];exact⟨_j hp.1 (pw (by decide)),_j hp.2 (pw (by decide))⟩
  obtain⟨a',b',ih⟩:=ze7 s ps (aD+p.1*p.2) (e! p.1) (e! p.2) λq hq=>h q (.tail _ hq);refine aV! a' b' ?_;have e:z0T [a0,a1,e! aD,e! p.1,e! p.2] s=aO! [a0,a1,e! (aD+p.1*p.2),e! p.1,e! p.2]:=by simp[mm]
  have og:okG [] all s:=by intro p hp;simp at hp
  rw[_u,yL,_i og,z8O,Rb];simp only[_L,_E];rw[e,Rb];simp only[_u,_aM];rw[<- Int.add_assoc];exact ih
theorem zox{u v:i!}(hu:∀x∈u,do! 400)(hv:∀x∈v,do! 400)(s:Sto):vO [rD u,az!] s=t! (eD! u):=by
 have key:hM! (d=rD u->e=az!->vO [d,e] s=t! (eD! u)):=q3! (by
  have st:zv [ed!,dV!,pm!,qP!,ol!] [d,e]=kk! k! z! a!:=rfl;have f1:z46 (kk! k! z! a!) s=aO! [k!,z!,e! 0,a!,a!]:=rfl;have hi:z4W (cn! o! 1) [k!,z!,e! 0,a!,a!] s=j! (jE! u v (iX! (bW! p.1 p.2)),[]):=by
   simp only[z4W,Rb];rw[hd,he];show ep! (z42 (iL u) ca!,[]++[]) s=_;rw[zip_rows];rfl
  obtain⟨a',b',lp⟩:=ze7 s (rE! u v) 0 a! a! (bq! ⟨hu _ (l6!).1,hv _ (l6!).2⟩);rw[zhQ,_aO]at lp;have f2:z0t [k!,z!,e! 0,a!,a!] s=aO! [k!,z!,e! (eD! u),a',b']:=by
   rw[z0t,qE,hi,Rb];exact lp
  simp only[vO,Mof,z5U,st,_v];rw[zm f1,zm f2];rfl)
 exact key _ _ rfl rfl
theorem zpK{n m:Nat}{v:i!}{d:D}{ρ:Ev}{s:Sto}(h:l5!)(hd:Bn m d)(hm:m<=400)(i3:E! ρ 3 ak!)(l8:E! ρ 11 k!): ∃b,zI [d! 1,az!,d] s=bz! b/\zaN (ze Pg.yw (aQ! (zd 11) (hv! 3))) (eOp dEq (eU! Pg.vO (zd 11) 3) (cy! Pg.qa 3)) ρ s=bz! b:=by
 have n4:n<=4:=by have:=h.sz;unfold Sz at this;lia
 have gl:yH gD! s=t! n:=by simp[yH,zY,h.len]
 have w:ze Pg.yw (aQ! (zd 11) (hv! 3)) ρ s=bz! (z1B n d):=by
  rw[px! (vr l8) (by rw[xi (vr i3),gl])];exact zp8 hd.kd (by lia) s
 have a1:=z8U (n:=n) hd.kd (by lia) s;cases q:z1B n d with
 | false=>
  rw[q]at w a1;refine⟨r!,zgY h ?_,?_⟩
  ·have key:∀e x:D,yH [e] s=t! n->wJ [e,d,x] s=dZ!:=λe x g=>by simp[wJ,Mof,z33,zv,a1,g]
   exact key _ _ gl
  ·rw[z4p,w];rfl | true=>
  rw[q]at w;have ex:∃u:List Int,d=rD u/\qZ!=n:=by cases d with
   | tup ys=>
    simp only[z1B,_R,_ay]at q;obtain⟨u,rfl⟩:=all_ints q.2;exact aC! u (by simpa using q.1) | _=>simp[z1B]at q
  obtain⟨u,rfl,lu⟩:=ex;have bu := ae! (hd.bd (iL u) x rfl (_t.mpr ⟨x,hx,rfl⟩));have b4 := ae! (_j (bu x hx) (pw hm));have v4:∀x∈v,do! 400:=ae! (_j (h.abs x hx) (pw (by decide)));refine⟨bw! (eD! u=f6!),zgY h (zaJ h lu bu (by decide) (by lia) s),?_⟩;have e1:ze Pg.vO (cn! (zd 11) 3) ρ s=t! (eD! u):=by rw[px! (vr l8) (vr i3)];exact zox b4 v4 s
  have e2:ze Pg.qa (cw! 3) ρ s=t! f6!:=by rw[xi (vr i3)];exact zpb dA! s
  rw[z4p,w,Rb];simp only[_v];rw[op2 e1 e2,zaR]
noncomputable abbrev EV(sc:D)(a1 a2 a3 a4 a5 a6 a7 a8 a9 a10 a11 a12 a13:fD!):Ev:=[b! sc,a1,a2,a3,a4,a5,a6,a7,a8,a9,a10,a11,a12,a13]
section
variable {sc:D}{a1 a2 a3 a4 a5 a6 a7 a8 a9 a10 a11 a12 a13:fD!}{n:Nat}{v:i!}{r:Rl}{ls:ff!}{z:i!}{k:Nat}{B:Tb}{b:i!}{s:Sto}
theorem ix0{f:FE}{ρ:Ev}{x:D}{xs:v!}(h:aM!=bt! (x::xs)):eOp dIx f C! ρ s=j! x:=by rw[op2 h rfl];exact wV (by decide) rfl
theorem ix1{f:FE}{ρ:Ev}{x y:D}{xs:v!}(h:aM!=bt! (x::y::xs)):eOp dIx f ao! ρ s=j! y:=by rw[op2 h rfl];exact wV (by decide) rfl
theorem zsW(h:l5!)(S:Sh r n v ls z k B b):∃y6,z6h (EV sc a1 a2 ak! b8! (L! (aU!::bC! he!)) a6 a7 a8 a9 a10 a11 a12 a13) s=aO! (EV sc a1 a2 ak! b8! (L! (aU!::bC! he!)) y6 a7 a8 a9 a10 a11 a12 a13):=by
 have lb := S.tab.row _ (_w S.at_);have n4:n<=4:=by have:=h.sz;unfold Sz at this;omega
 obtain⟨ρ',s',e,y6,e1,e2⟩:=z5g (body:=ee! (yh 6 d ρ s) (z9r ρ' s')) (fun ρ S'=>∃y6,ρ=EV sc a1 a2 ak! b8! (L! (aU!::bC! he!)) y6 a7 a8 a9 a10 a11 a12 a13/\S'=s) (([0,1]:i!).map pd!) (λx hx ρ S' hI=>by
  obtain⟨y6,rfl,rfl⟩:=hI;refine⟨EV sc a1 a2 ak! b8! (L! (aU!::bC! he!)) dJ! a7 a8 a9 a10 a11 a12 a13,S',?_,dJ!,rfl,rfl⟩;rw[va,Rb];show z9r (EV sc a1 a2 ak! b8! (L! (aU!::bC! he!)) dJ! a7 a8 a9 a10 a11 a12 a13) S'=_;rw[z9r,zil];·rfl
  ·refine zpY (z2q ?_);rw[px! (by rw[zeY rfl u! u!];exact zkO h S S') (ix0 u!)];exact zkA (k:=0) S' (zjo 2 (by omega))) (EV sc a1 a2 ak! b8! (L! (aU!::bC! he!)) a6 a7 a8 a9 a10 a11 a12 a13) s (aC! a6 rfl);refine as! y6 ?_;rw[z6h,qE,zvD,Rb];exact qu! (by rw[e1,e2])
theorem zdM(q:Int):∀u w:List Int,jE! u w (λp=>aD! (p.1+q*p.2))=iL (kJ! (λx y=>x+q*y) u w)
 | [],_=>by simp | _::_,[]=>by simp | a::u,c::w=>by
  have:=zdM q u w;simp only[_bo,_u,_aQ]at this ⊢;rw[this]
theorem zpl{q:Int} {c:i!} {xs:v!} (hq:pE!<2 ^ 4) (lb:n9!<=4) (hb:∀x∈b,do! 318) (hc:∀x∈c,do! 318):z2s (EV sc a1 a2 a3 a4 (L! (aU!::xs)) a6 (e! q) (b1! c) a9 a10 a11 a12 a13) s=aO! (EV sc a1 a2 a3 a4 (L! (aU!::xs)) a6 (e! q) (b1! c) (b1! (kJ! (λx y=>x+q*y) b c)) a10 a11 a12 a13):=by
 have hi:z4W (cn! (gX! 5) 8) (EV sc a1 a2 a3 a4 (L! (aU!::xs)) a6 (e! q) (b1! c) a9 a10 a11 a12 a13) s=j! (jE! b c (iX! (bW! p.1 p.2)),[]):=by
  have e0:eOp dIx (zd 5) C! (EV sc a1 a2 a3 a4 (L! (aU!::xs)) a6 (e! q) (b1! c) a9 a10 a11 a12 a13) s=j! aU!:=ix0 u!;simp only[z4W,zy,e0,Rb];show ep! (z42 (iL b) (iL c),[]++[]) s=_;rw[zip_rows];rfl
 have cm:=comp_map (mp:=dI! 7) (fg:=yM 1 2) (fe:=jF! 1 (hz! 0 H!)) (pu! (gJ! (bW! p.1 p.2))) (λp=>aD! (p.1+q*p.2)) (λp=>[e! q,e! p.1,e! p.2]) (rE! b c) hi (λp _=>rfl) (bq! (by
   have m:eOp yS o! H! [e! q,e! p.1,e! p.2] s=t! (q*p.2):=by
    rw[iu! u!];exact z3L s hq (by decide) (hc _ (l6!).2) (by decide)
   rw[iu! m];rfl)) (by simp[cap];omega);rw[zdM]at cm;rw[z2s,zN,xi cm];rfl
theorem zo1{q:Int}(hq:pE!<2 ^ 4){u w:i!}(hu:∀x∈u,do! 318)(hw:∀x∈w,do! 318):∀x∈kJ! (λx y=>x+q*y) u w,do! 323:=ae! (by
 obtain⟨i,hi,e⟩:=oV!;rw[_bD]at e;have h1:=hu _ (_G (List.lt_length_left_of_zipWith hi));have h2:=zcf hq (hw _ (_G (List.lt_length_right_of_zipWith hi)));rw[<- e];exact _a4 (_da _ _) (_j (Nat.add_lt_add h1 h2) (by decide +kernel)))
theorem zkj{things:v!}(h:l5!)(ht:∀d∈things,Bn 400 d):∃bA bi,yL [] things (ee! (yh 11 d ρ s) ((zx z14 z2E) ρ' s')) things (EV sc a1 a2 ak! a4 a5 a6 a7 a8 a9 a10 a11 a12 a13) s=aO! (EV sc a1 a2 ak! a4 a5 a6 a7 a8 a9 a10 bA bi a13):=by
 obtain⟨ρ',s',e,bA,bi,e1,e2⟩:=z5g (body:=ee! (yh 11 d ρ s) ((zx z14 z2E) ρ' s')) (fun ρ S'=>∃bA bi,ρ=EV sc a1 a2 ak! a4 a5 a6 a7 a8 a9 a10 bA bi a13/\S'=s) things (λx hx ρ S' hI=>by
  obtain⟨bA,bi,rfl,rfl⟩:=hI;obtain⟨w,t1,t2⟩:=zpK (ρ:=EV sc a1 a2 ak! a4 a5 a6 a7 a8 a9 a10 dJ! bi a13) h (ht x hx) (by decide) rfl rfl;refine⟨EV sc a1 a2 ak! a4 a5 a6 a7 a8 a9 a10 dJ! (b! (.bl w)) a13,S',?_,dJ!,b! (.bl w),rfl,rfl⟩;rw[va,Rb];show zx z14 z2E (EV sc a1 a2 ak! a4 a5 a6 a7 a8 a9 a10 dJ! bi a13) S'=_;have f14:z14 (EV sc a1 a2 ak! a4 a5 a6 a7 a8 a9 a10 dJ! bi a13) S'=D! (EV sc a1 a2 ak! a4 a5 a6 a7 a8 a9 a10 dJ! (b! (.bl w)) a13) S':=by rw[z14,zN,t2];rfl
  rw[zm f14,z2E,zil];·rfl
  ·refine zpY (z2q ?_);rw[nv! (by rw[zeY rfl u! u!];exact t1)];exact zkA (k:=0) S' trivial) (EV sc a1 a2 ak! a4 a5 a6 a7 a8 a9 a10 a11 a12 a13) s (fg! a11 a12 rfl);exact⟨bA,bi,qu! (by rw[e1,e2])⟩
end
end aY
namespace Pr
open L2 Dd Pm Pg Pn Po
theorem m_many(n:Nat)(b:Nat):∃k:Nat,(am! ((am! (h! b<h! n) (h! b) n) > 1) (am! (h! b<h! n) (h! b) n) 1)=h! k/\k<=b+1:=by
 by_cases h:h! b<n
 ·rw[_i h];by_cases h2:h! b > 1;·exact⟨b,by rw[_i h2],by lia⟩
  ·exact⟨1,by rw[_q h2];rfl,by lia⟩
 ·rw[_q h];by_cases h2:h! n > 1;·exact⟨n,by rw[_i h2],by lia⟩
  ·exact⟨1,by rw[_q h2];rfl,by lia⟩
end Pr
namespace aY
open L2 Dd Pm Pg Pn Po Pb
noncomputable abbrev ziW:FS:=dE! z5j z5t z5h z59 z5o
noncomputable abbrev zpP:D->Ev->el! Fl:=ee! (yh 1 d ρ s) ((dE! z5C z7e z6F z5W (dE! z6h z6l z2j z2s ziW)) ρ' s')
def EL(ns:i!)(ρ:Ev):g!:=∃a1 a2 a3 a4 a5 a6 a7 a8 a9 a10 a11 a12 a13,ρ=EV dh! a1 a2 a3 a4 a5 a6 a7 a8 a9 a10 a11 a12 a13
section
variable {sc:D}{a1 a2 a3 a4 a5 a6 a7 a8 a9 a10 a11 a12 a13:fD!}{n l:Nat}{v:i!}{r:Rl}{b u:i!}{s:Sto}
theorem zkP(x:Str) (hx:PyData.strOk x=c!) (s:Sto):dNe aY! aY! s=dZ!:=ne_self (k:=0) (d:=aY!) hx (by decide) s
theorem zqH{C:Tb}{c:i!}(h:l5!)(hp:Pot s l)(hb:∀x∈b,do! 323)(b1:1<=n9!)(b4:n9!<=4)(hu:∀x∈u,do! 323)(u1:1<=qZ!)(u4:qZ!<=4)(hc:∀x∈c,do! 323): ∃iP bA bi iQ s',ziW (EV sc a1 N! ak! b8! (L! (aU!::rD c::hU!)) a6 a7 a8 iz! a10 a11 a12 a13) s=D! (EV sc a1 N! ak! b8! (L! (aU!::rD c::hU!)) a6 a7 a8 iz! iP bA bi iQ) s':=by
 have l4:=h.toLot.le4;have l2:2<=I!:=by have:=h.sz;have:=h.len;unfold Sz at *;lia
 obtain⟨cz,s1,e1,kb,d1⟩:=zi4 hp h.abs (by decide) (by lia) (by lia);have f12:z5j (EV sc a1 N! ak! b8! (L! (aU!::rD c::hU!)) a6 a7 a8 iz! a10 a11 a12 a13) s=g0! (EV sc a1 N! ak! b8! (L! (aU!::rD c::hU!)) a6 a7 a8 iz! kj! a11 a12 a13):=by rw[z5j,zN,nv! u!,e1];rfl
 obtain⟨t3,s2,e2,k2,d2⟩:=zi4 d1.pot hb (by decide) b1 b4;obtain⟨t4,s3,e3,k3,d3⟩:=zi4 d2.pot hu (by decide) u1 u4;obtain⟨t6,s4,e4,k4,d4⟩:=zqp d3.pot;have c6:dX! 6<=cap:=by decide
 have lst:kQ (fK! (gX! 5) (zd 9) (ze or! (aQ! H! (gX! 5))) (eU! or! H! 9) (aQ! (fy! 5 ao!) (cy! Pg.vK 2))) (EV sc a1 N! ak! b8! (L! (aU!::rD c::hU!)) a6 a7 a8 iz! kj! a11 a12 a13) s1=.ok (ad! [aU!,rD u,t3,t4,rD c,t6]) s4:=by
  generalize hρ:EV sc a1 N! ak! b8! (L! (aU!::rD c::hU!)) a6 a7 a8 iz! kj! a11 a12 a13=ρ;have i5:∀s,zd 5 ρ s=bt! (aU!::rD c::hU!):=λs=>vr (by rw[<- hρ];rfl);have i9:∀s,zd 9 ρ s=j! (rD u):=λs=>vr (by rw[<- hρ];rfl);have i2:∀s,zd 2 ρ s=j! dK!:=λs=>vr (by rw[<- hρ];rfl);have g3:ze or! (aQ! H! (gX! 5)) ρ s1=bD! t3:=by rw[px! (i2 s1) (ix0 (i5 s1)),e2]
  have g4:ze or! (cn! H! 9) ρ s2=.ok t4 s3:=by rw[px! (i2 s2) (i9 s2),e3]
  have g6:ze Pg.vK (cw! 2) ρ s3=.ok t6 s4:=by rw[xi (i2 s3),e4]
  have j0 := ix0 (i5 s1);have j1 := ix1 (i5 s3);exact zfk (gQ! j0 (i9 s1) (gQ! g3 g4 (gQ! j1 g6 rfl))) c6
 obtain⟨bA,bi,lp⟩:=zkj (things:=[aU!,rD u,t3,t4,rD c,t6]) h (eV! ((Bn.row hb).up (by decide)) ((Bn.row hu).up (by decide)) (eV! (k2.up (by decide)) (k3.up (by decide)) (eV! ((Bn.row hc).up (by decide)) (zlR k4 (by decide)) faN)));have f13:z5t (EV sc a1 N! ak! b8! (L! (aU!::rD c::hU!)) a6 a7 a8 iz! kj! a11 a12 a13) s1=D! (EV sc a1 N! ak! b8! (L! (aU!::rD c::hU!)) a6 a7 a8 iz! kj! bA bi a13) s4:=by
  rw[z5t,qE,jm,lst,Rb];simp only[Rb];exact lp
 obtain⟨no,s5,e5,fB,d5⟩:=zgo r d4.pot;have f17:z5h (EV sc a1 N! ak! b8! (L! (aU!::rD c::hU!)) a6 a7 a8 iz! kj! bA bi a13) s4=D! (EV sc a1 N! ak! b8! (L! (aU!::rD c::hU!)) a6 a7 a8 iz! kj! bA bi (b! no)) s5:=by rw[z5h,zN,nv! u!,e5];rfl
 have f18:z59 (EV sc a1 N! ak! b8! (L! (aU!::rD c::hU!)) a6 a7 a8 iz! kj! bA bi (b! no)) s5=D! (EV sc a1 N! ak! b8! (L! (aU!::rD c::hU!)) a6 a7 a8 iz! kj! bA bi (b! no)) s5:=by
  rw[z59,zil];·rfl
  ·refine ztp (z2q ?_) (z2q ?_)
   ·rw[op2 (by rw[zeY rfl u! u!];exact zbd (zl0 fB s5)) rfl];exact zkP _ (by decide +kernel) s5
   ·rw[op2 (by rw[zeY rfl u! u!];exact zbd (zl0 fB s5)) rfl];exact zkP _ (by decide +kernel) s5
 have gx:z5o (EV sc a1 N! ak! b8! (L! (aU!::rD c::hU!)) a6 a7 a8 iz! kj! bA bi (b! no)) s5=D! (EV sc a1 N! ak! b8! (L! (aU!::rD c::hU!)) a6 a7 a8 iz! kj! bA bi (b! no)) s5:=by
  rw[z5o,zil];·rfl
  ·rcases zj4 kb.kd s5 with⟨n',v',rfl,hv,h1,h2⟩ | ⟨h1,h2⟩
   ·rw[zi1,z01,z2q (by rw[xi u!,h2])];rfl
   ·rw[zi1,z01,z2q (by rw[xi u!,h2])];simp only[Rb,_v];have c2:dX! 2<=cap:=by decide
    refine z2q ?_;rw[op2 ?_ (twice ..),zoS (by decide +kernel)];have g1:ze zI (zb C! (cn! (zd 4) 10)) (EV sc a1 N! ak! b8! (L! (aU!::rD c::hU!)) a6 a7 a8 iz! kj! bA bi (b! no)) s5=.ok (aI! aB!) s5:=by rw[zeY rfl u! u!];exact ziO r h1
    have g2:ze zI (zb ao! (aQ! (zd 10) (gX! 5))) (EV sc a1 N! ak! b8! (L! (aU!::rD c::hU!)) a6 a7 a8 iz! kj! bA bi (b! no)) s5=.ok (aI! aB!) s5:=by rw[zeY rfl u! (ix0 u!)];exact zfL h1
    exact zfk (gQ! g1 g2 rfl) c2
 exact⟨_,_,_,_,_,by unfold ziW;rw[zm f12,zm f13,zm f17,zm f18,gx]⟩
end
theorem znV(ns:i!) (j:Nat) (ρ:Ev) (s:Sto) (h:EL ns ρ):∃ ρ' s',zpP (d! j) ρ s=D! ρ' s'/\EL ns ρ':=by
 obtain⟨a1,a2,a3,a4,a5,a6,a7,a8,a9,a10,a11,a12,a13,rfl⟩:=h;rw[show zpP (d! j) (EV dh! a1 a2 a3 a4 a5 a6 a7 a8 a9 a10 a11 a12 a13) s=(dE! z5C z7e z6F z5W (dE! z6h z6l z2j z2s ziW)) (EV dh! aH! a2 a3 a4 a5 a6 a7 a8 a9 a10 a11 a12 a13) s from rfl];obtain⟨c,e1⟩:=zp2 ns j s;obtain⟨q,e2⟩:=zsQ c s;have hp:Pot (s++[[d! q]]) cm!:=⟨q,by simp⟩;obtain⟨n,v,s1,e3,hv,d1⟩:=zte hp;have n4:2<=n/\n<=4:=by have:=hv.sz;unfold Sz at this;lia
 have f2:z5C (EV dh! aH! a2 a3 a4 a5 a6 a7 a8 a9 a10 a11 a12 a13) s=D! (EV dh! aH! W! a3 a4 a5 a6 a7 a8 a9 a10 a11 a12 a13) (s++[[d! q]]):=by rw[z5C,zN,xi (by rw[nv! u!,e1]),e2];rfl
 have f3:z7e (EV dh! aH! W! a3 a4 a5 a6 a7 a8 a9 a10 a11 a12 a13) (s++[[d! q]])=g0! (EV dh! aH! W! ak! a4 a5 a6 a7 a8 a9 a10 a11 a12 a13):=by rw[z7e,zN,xi u!,e3];rfl
 obtain⟨r,s2,e4,d2⟩:=zph (f:=H!) (ρ:=EV dh! aH! W! ak! a4 a5 a6 a7 a8 a9 a10 a11 a12 a13) d1.pot u!;have f4:z6F (EV dh! aH! W! ak! a4 a5 a6 a7 a8 a9 a10 a11 a12 a13) s1=D! (EV dh! aH! W! ak! b8! a5 a6 a7 a8 a9 a10 a11 a12 a13) s2:=by rw[z6F,zN,e4];rfl
 obtain⟨ls,z,k,B,b,S⟩:=zpF r hv;have f5:z5W (EV dh! aH! W! ak! b8! a5 a6 a7 a8 a9 a10 a11 a12 a13) s2=D! (EV dh! aH! W! ak! b8! (L! (aU!::bC! he!)) a6 a7 a8 a9 a10 a11 a12 a13) s2:=by rw[z5W,zN,nv! u!,znT hv S];rfl
 obtain⟨y6,f6⟩:=zsW hv S;have le:q! he!=n-1:=by rw[List.length_eraseIdx,_i (by rw[S.tab.len];exact S.kn),S.tab.len]
 have bv:∀x∈he!,x.length=n/\∀y∈x,nl!<2 ^ 318:=ae! (S.rowb x (List.mem_of_mem_eraseIdx hx));obtain⟨c0,C,eB⟩:∃c0 C,he!=c0::C:=by cases e:he! with
  | nil=>rw[e]at le;exact bS! le (by show ¬ 0=n-1;lia) | cons c0 C=>exact aV! c0 C rfl
 rw[eB]at f5 f6 le bv;have mb := _w S.at_;obtain⟨lb,bb⟩:=S.rowb b mb;obtain⟨t,s3,e9,t0,t1,d3⟩:=vw (f:=H!) (g:=T! 9) (ρ:=EV dh! aH! W! ak! b8! (L! (aU!::bC! (c0::C))) y6 a7 a8 a9 a10 a11 a12 a13) d2.pot (by decide) (kw (by decide)) rfl rfl;have f9:z6l (EV dh! aH! W! ak! b8! (L! (aU!::bC! (c0::C))) y6 a7 a8 a9 a10 a11 a12 a13) s2=D! (EV dh! aH! W! ak! b8! (L! (aU!::bC! (c0::C))) y6 (e! (t-4)) a8 a9 a10 a11 a12 a13) s3:=by
  rw[z6l,zN,yy,e9,Rb];rfl
 obtain⟨i,s4,pG,i0,i1,d4⟩:=vw (f:=H!) (g:=eOp z7r (hv! 3) ao!) (far:=h! n-1) (ρ:=EV dh! aH! W! ak! b8! (L! (aU!::bC! (c0::C))) y6 (e! (t-4)) a8 a9 a10 a11 a12 a13) d3.pot (by lia) (kw (by lia)) rfl (by
  have gl:yH gD! s3=.ok (d! n) s3:=by simp[yH,zY,hv.len]
  rw[op2 (by rw[xi u!,gl]) rfl,zfE]);have hi:jq!<q! (c0::C):=by lia
 have f10:z2j (EV dh! aH! W! ak! b8! (L! (aU!::bC! (c0::C))) y6 (e! (t-4)) a8 a9 a10 a11 a12 a13) s3=D! (EV dh! aH! W! ak! b8! (L! (aU!::bC! (c0::C))) y6 (e! (t-4)) (b1! ((c0::C)[i.toNat])) a9 a10 a11 a12 a13) s4:=by
  have ix:c1! (ad! (aU!::bC! (c0::C))) (1+i) s4=.ok (rD ((c0::C)[i.toNat])) s4:=by
   refine wV (by lia) ?_;rw[show fc! (1+i)=jq!+1 by lia,_d,_A,_b hi];rfl
  rw[z2j,zN,yy,u!,Rb,yy,z0Z,Rb,pG,Rb,z65,Rb,ix];rfl
 obtain⟨lc,bc⟩:=bv _ (_G hi);have hq:bg! (t-4)<2 ^ 4:=by lia
 have f11:=zpl (sc:=dh!) (a1:=aH!) (a2:=W!) (a3:=ak!) (a4:=b8!) (a6:=y6) (a9:=a9) (a10:=a10) (a11:=a11) (a12:=a12) (a13:=a13) (s:=s4) (b:=b) (xs:=bC! (c0::C)) hq (by lia) bb bc;have up:∀{x:List Int},(∀y∈x,nl!<2 ^ 318)->∀y∈x,nl!<2 ^ 323:=λhx y hy=>_j (hx y hy) (pw (by decide));have bu:=zo1 hq bb bc;have lu:q! (kJ! (λx y=>x+(t-4)*y) b ((c0::C)[i.toNat]))=n:=by rw[List.length_zipWith];lia
 have pH:=bv c0 jP!;obtain⟨iP,bA,bi,iQ,s',fr⟩:=zqH (sc:=dh!) (a1:=aH!) (a6:=y6) (a7:=e! (t-4)) (a10:=a10) (a11:=a11) (a12:=a12) (a13:=a13) (C:=C) (c:=c0) (b:=b) (r:=r) hv d4.pot (up bb) (by lia) (by lia) bu (by lia) (by lia) (up pH.2);have w:=hf! (zm f2) (zm f3) (hf! (zm f4) (zm f5) (hf! (zm f6) (zm f9) (hf! (zm f10) (zm f11) fr)));exact⟨_,s',w,_,_,_,_,_,_,_,_,_,iP,bA,bi,iQ,rfl⟩
theorem zqP(ns:i!):∃ ρ' s',zco (EV dh! a! a! a! a! a! a! a! a! a! a! a! a! a!) []=D! ρ' s':=by
 obtain⟨k,ek,hk⟩:=Pr.m_many eN! 10;rw[show Z! 10=10 from rfl]at ek;obtain⟨ρ',s',e,_⟩:=z5g (fun ρ _=>EL ns ρ) (ym k) (λx hx ρ s hI=>by
  obtain⟨j,_,rfl⟩:=zf7 hx;exact znV ns j ρ s hI) (EV dh! a! a! a! a! a! a! a! a! a! a! a! a! a!) [] ⟨_,_,_,_,_,_,_,_,_,_,_,_,_,rfl⟩;refine aV! ρ' s' ?_;unfold zco;rw[qE,jg (n:=k) (s1:=[]) (by lia) (by simp only[yg,zy,zP,z0Z,yi,_c,Rb,yH,zY,_z,zki,zjW,ek]),Rb];exact e
theorem znA{ls:ff!}{z:i!}{k:Nat}{B:Tb}{b:i!}(S:Sh .nx 2 [0,4] ls z k B b):b=[0,1]:=by
 have e:ls=[[0,4]]:=by
  have:=S.run;cases this with
  | done=>rfl | step he=>exact bS! (show nm! [0,4]=c! by decide) (by simp[he])
 have hB:B=[[1,0],[0,1]]:=by
  rw[S.B_,e];decide
 have fn:=S.fn;rw[hB]at fn;have:fO! ([[1,0],[0,1]]:Tb) (λx=>cK! (dot x [0,4]) 0)=[[0,1]]:=by decide
 rw[this]at fn;exact (List.cons.inj fn).1.symm
theorem ztb(ρ:Ev) (s:Sto):z9G ρ s=j! (.rt ew!):=by
 have hv:LotB 2 104 [0,4]:=⟨mE! (by decide) (by decide) ⟨4,by decide,by decide⟩,by decide⟩;obtain⟨ls,z,k,B,b,S⟩:=zpF .nx hv;have t1:=zkO hv S s;rw[znA S]at t1;have t2:=zgY hv (zaJ (k:=10) hv (u:=[9,1]) rfl (by decide) (by decide) (by decide) s);rw[show bw! (dot [9,1] [0,4]=z2V [0,4])=c! by decide]at t2;have c2:dX! 2<=cap:=by decide
 have q1:=eq_self (k:=1) (d:=p! (bW! 0 1)) (by decide +kernel) (by decide) s;have u1:zI [c4!,jN!,p! (bW! 0 4)] s=bc! (bW! 0 1):=t1;have u2:zI [d! 1,p! (bW! 0 4),p! (bW! 9 1)] s=b3!:=t2;have q2:dIs ew! ew! s=b3!:=rfl;rw[z9G,yf,z4p];simp only[yy,yg,zy,zP,z22,z0Z,Rb,_h,_l,_i c2,u1,u2,q1,q2]
theorem zk1:∀ns:List Int,eN!<=63->∃s',znn [.scr il!] []=cg! ew!:=λns hn=>by
 obtain⟨ρ',s',e⟩:=zqP ns;refine as! s' ?_;have st:zv [lC!,pl!,fd!,dW!,fS!,kI!,"_law_turn",if!,pr!,lE!,"_law_bad",hL!,mi!,"_law_none"] [.scr il!]=EV dh! a! a! a! a! a! a! a! a! a! a! a! a! a!:=rfl;unfold znn Mof zkB;rw[_i (by rfl),st,zm e,ztb]
end aY
namespace aY
open L2 Dd Pg
theorem zok:∀x∈rsX,x∈askQ.xs:=by decide +kernel
theorem zvr:∀x∈csX,x∈askQ.xs:=by decide +kernel
theorem zvt:∀x∈rsX,∀y∈csX,((x,y),x==y)∈askQ.ps:=by decide +kernel
theorem zvo:l! li!∈askQ.xs:=by decide +kernel
theorem zvB:∀x∈rsX,((x,l! li!),c!)∈askQ.ps:=by decide +kernel
theorem all_mk{P:Program}{w:World}{K:W.Frag}{h:Heap}{mg:Str->aS!}{fa:Addr}(X:hr!)(G:oA! mg)(pI:fn! "law" (w! fa))(e:zdD g7! K=jb! g7!) : ∃fd:FuncData,(∀(s:Shared)(v:Value),qh! s fd (dG! [v]) [(lC!,v)])/\∀base:Heap,K.In O!->sp! mg->z9e P w K mg O! CX0 15 fa fd [lC!] (znd K):=by
 obtain⟨p7,rc,pJ,l9⟩:=zlf X G e 68 rfl;have e0:=pI.symm.trans pJ;cases e0;obtain⟨oc,od,kV,aE,pm,an,aj,ct,cE,rfl,hl,hc⟩:=l9.ex;have GG:∀(x:Str)(v:Value),gl! K x=b! bP!->fn! x v:=λx v h=>W.mg_of X G h;have:Txt P w K mg:=⟨zkX X G e 0 rfl,zkX X G e 1 rfl,ux X G e 0 rfl,ux X G e 1 rfl,ux X G e 2 rfl,ux X G e 3 rfl,ux X G e 4 rfl,ux X G e 5 rfl,ux X G e 6 rfl,ux X G e 7 rfl,ux X G e 8 rfl,ux X G e 9 rfl,ux X G e 10 rfl,ux X G e 11 rfl,ux X G e 12 rfl,ux X G e 13 rfl,ux X G e 14 rfl,ux X G e 15 rfl,ux X G e 16 rfl,λi _ _=>zlf X G e i,zrz X G e "RULES" ze8 (_w (i:=0) rfl),z8V GG (zav e g6! (zok _ (by decide +kernel))),z8V GG (zav e g5! (zok _ (by decide +kernel))),z8V GG (zav e ji! (zok _ (by decide +kernel))),z8V GG (zav e jj! (zok _ (by decide +kernel))),zg9 GG (ae! (zav e x (zok x hx))) (ae! (zav e x (zvr x hx))) (λx hx y hy=>by rw[zqR e x y (x==y) (zvt x hx y hy)];rfl),ae! (znP GG (zav e x (zok x hx)) (zav e li! zvo) (by rw[zqR e x li! c! (zvB x hx)];rfl))⟩;refine⟨W.fnOf "law" "law" (jp z7X) (xE z7X) (zi z7X) X! kV aE pm an aj ct,λs v=>.of_eq rfl,λbase _ _=>?_⟩;exact zqK (x:="law") (zeq l9) zk1
theorem boot_:∀w:World,jR! (W.fencedOpening r9! p0! w 12006) (F!,s.gens,s.drawn,fQ!)=b! (j8!,jD!,p1!,p2!):= W.boot_open (by kernel_rfl) (by decide) (λs=>by kernel_rfl)
theorem left_:W.LeftO p0! qv looseQ xtQ (obsS g7!) (valS g7!) 12006:=zhv "special-get-raises" boot_ (λw os=>z7W (f:=λs=>(m5! s,obsS g7! s)) (zua w) (bsz w) (zbP (za0 w os) (zaO w os))) (λw os=>z7W (f:=λs=>(m5! s,obsS g7! s)) (zua w) (bsz w) (zbP (zcs w os) (zcJ w os)))
end aY
end
end
open PySem PySem.Spec PyProof.Rows
open PySem.W
set_option maxRecDepth 100000 in
set_option maxHeartbeats 0 in
theorem PySem.Challenge.cw_drawndown_k21_weights_looked_at_and_told_holds : PySem.Challenge.rw_drawndown_k21_weights_looked_at_and_told.Holds := by
  w_on; refine holds_law aY.said_ λpK => ?_
  refine holds_open (q := aY.qv) (loose := aY.looseQ) (Xt := aY.xtQ) (XP := XL aY.qv aY.lvQ) (Yf := Dd.obsS aY.askQ) (Ya := Dd.valS aY.askQ) (YP := Dd.saysS aY.askQ) (N := 12006) aY.left_ (Dd.zlY aY.askQ) (Dd.zf0 aY.askQ) (λs e => xl_of s (_ac.mp e).1) XL.keeps (by rfl) (by rfl) (by rfl) (λs e => recFacts_of (_ac.mp e).2) (by rfl) (by first | assumption | decide +kernel) (by decide +kernel) ⟨rfl, rfl, rfl, rfl, rfl, by decide +kernel⟩ ?hw ?hc
  (case hw => w_witness2)
  refine Dd.walkY (l := PySem.Challenge.rw_drawndown_k21_weights_looked_at_and_told) (n := 63) (k := 15) (x := "_law_script") rfl (by decide) (by decide) rfl ⟨rfl, by decide, by decide, rfl⟩ ?F
  case F =>
    intro w mg fa h Yy G cX XP
    obtain⟨K, KX, e⟩ := Yy
    exact⟨K, KX, aY.all_mk KX G cX e ⟩
