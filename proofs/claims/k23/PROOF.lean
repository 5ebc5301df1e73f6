import PyProof.Rows.All
import KE.KIsAll
import KE.KDictList
import KE.KSortTup
import KE.IntBitsLaws
import PySem.Challenge.RW_drawndown_k23_showings
set_option compiler.extract_closed false
set_option Elab.async false
set_option linter.all false
set_option maxRecDepth 100000
set_option maxHeartbeats 1000000
set_option exponentiation.threshold 5000
theorem aDe_(_:True:=by decide):True:=trivial
def aDe:Lean.Syntax:=aDe_._auto_1
theorem aLr_(_:True:=by first | exact .inl rfl | exact .inr rfl | assumption):True:=trivial
def aLr:Lean.Syntax:=aLr_._auto_1
theorem aOr_(_:True:=by first | exact Or.inl rfl | exact Or.inr rfl):True:=trivial
def aOr:Lean.Syntax:=aOr_._auto_1
theorem aIr_(_:True:=by intro _;rfl):True:=trivial
def aIr:Lean.Syntax:=aIr_._auto_1
theorem aRf_(_:True:=by rfl):True:=trivial
def aRf:Lean.Syntax:=aRf_._auto_1
theorem aWu_(_:True:=by with_unfolding_all rfl):True:=trivial
def aWu:Lean.Syntax:=aWu_._auto_1
section
namespace Zd
def zTab:String:="none
some # $1
.int # $1
true
some .int # $1 $1

some d $1
List Int $1
.ok # s $2
# Int :
\"Prop &1prop
some e $1

.tup # $1
# Str :
vr rfl $1
zd '0 $1
zd '1 $1

false
.ref # $1
# \". length &3proj
xs.length
.ok .int # $1 s $2
autoParam # aRf $2
.inl # $1
# \". bind &3proj # $1
eC .int '0 $1 $1
gm X $1
List D $1
eC .int # $1 $1
some .loc l $1 $1
# @0 \"[ # \"] @0 \"? %7term__[_]_? some # $1 `=
zc '1 $1
s.heap
v.length
.ok .nx # $1 # $2
Inv X ae O H s $5
rD v $1
zd '2 $1
zc '0 $1
.ok # s1 $2
some .loc s.length $1 $1
base
zx # # zm # $1 $3
.inr # $1
id rfl $1
PE X # # $3
.lst # $1
RE X E # # $4
.int i $1
\"( ! &2hygienicLParen # Str : \", # @1 @3 \") &3tuple
.none
# Nat : Int :
\"if # \"then # \"else .no %6termIfThenElse
some # $1 none [2
eC .int '1 $1 $1
Hs P w K mg base CX0 # # # $9
.ref a $1
x hx # \\2
\"\"lot\" %1str
\"if # # `= \"then # \"else # %6termIfThenElse
_l * $1
\"if # \"then # \"else # %6termIfThenElse
# @0 \"[ i \"] @0 \"? %7term__[_]_? some # $1 `=
.non
List Str $1
.tup xs $1
.str # $1
s.heap.objs.size
outer
qual
starEach # X.env $2
.type # $1
# # <2
at0 p # $2
f ρ s $2
zc '2 $1
L.length
# rfl # <3
some .int n $1 $1
List Expr $1
r.length
\"if # true `= \"then # \"else # %6termIfThenElse
zg # zb # zj $2 $2
Lot n v $2
deal r v $2 \". \"1 %1fieldIdx &3proj
d3 a b c # # # # # # $9
D.int # $1
Option Value $1
List V $1
# # # <3
X.prog
List.range # $1 \". map &3proj # $1
zJ # # # # * * * # \\3 # * * * # \\3 * * * # \\3 $8
.ref C $1
sizeLine
X.env
zb # zj $2
.ok .bl # $1 s $2
.ok .nx # $1 s $2
fIf # # yV $3
some .int j $1 $1
T.length
some .ref # $1 $1
# [0 `≠
ps.length
zA # zA # # $2 $2
# List Str $1 : \". Nodup &3proj
decide # $1
Or.inl rfl $1
.ok .tup # $1 s $2
some .int b $1 $1
gp v $1
Sz n $1
# \". trans &3proj # $1
eOp xh # # $3
# \". getD &3proj # '0 $2
zd '3 $1
s L.map rL $1 [1 `++
some .lst # $1 $1
Or.inr rfl $1
List Addr $1
.ok # s' $2
some rD v $1 $1
eOp dIx zd '1 $1 zd # $1 $3
Sto R D $1 ^
Option # $1
# # # rfl # <5
.ok # s2 $2
zg # zb zd '0 $1 zj $2 $2
iL v $1
p hp # \\2
v.getD # '0 $2
some rD # $1 $1
.str nmR r $1 $1
zD yG # # $3
.int # # $2
scope
some .int v.length $1 $1
.ok .lst # $1 s $2
some v $1
zi # zp zO # $1 $1 $2
\"∀ b o @2 @0 \", # &5forall
# \". natAbs &3proj
'2000
eC .str # $1 $1
.lst xs $1
aN zc '0 $1 zh $2
.lst iL # $1 $1
iL # $1 [1
\"\"_law_lot_here\" %1str
* # # <3
zg # zb zd # $1 zj $2 $2
wpAny model X.prog X.w $2 X.A # # X.xe # $6
_h # # <2 $1
.lst vs $1
zi # zi # # $2 $2
.int # t $2
some .int k $1 $1
zc '3 $1
.free
X.calm true `=
Value Shared \"Prop &1prop ^ ^
.str x $1
yE T.q # rfl $2 # hr hc # \\2 # $4
one n $1
v.getD i '0 $2
aN zc '1 $1 zh $2
uk v $1
\"Type @0 &2type
# \". elim &3proj
zb zd # $1 zj $2
ρ s # \". bind &3proj # $1 \\2
some .int far $1 $1
at2 L # a $3
* # rfl <3
some '1 $1 none [2
Bool
zb # zb # zj $2 $2
eOp dIx zd # $1 zd # $1 $3
# rfl <2
.ok .bl false $1 s $2
some tD # $1 $1
decide # # `≠ $1
.ok .bl true $1 s $2
.tup .int # $1 # # [3 $1
eOp dIx # # $3
autoParam # false `= aDe $2
.ref p $1
aO # zh $2
aQ # zh $2
H a $1 some # $1 `=
b hb # \\2
y hy # \\2
s.length
\"\"line\" %1str
\"\"rule\" %1str
\"\"_law_number\" %1str
aN zc # $1 zh $2
o # # <3
Hp \"Prop &1prop ^
yf X N' scope ex s H $6
.nil
L.getD # [0 $2
Array Value $1
some .int thin $1 $1
wpAny model prog # $2 # # # # # $6
left v # # $3
d3 a # # # # # # # # $9
d3 a b # # # # # # # $9
h.get? # $1 some o $1 `=
Mof # '2 # $3
.int '0 $1
zg # zb zd '0 $1 zb zd '1 $1 zj $2 $2 $2
absurd # # $2
r hr # \\2
\"\"__debug__\" %1str Str :
Inv X ae O # # $5
aN zc # $1 aN zc # $1 zh $2 $2
ls.map rD $1
r.getD # '0 $2
.int # $1 .int # $1 [2
_e.mp # $1 \". \"1 %1fieldIdx &3proj
zP zd '0 $1 $1
zg yF zb zd '0 $1 zj $2 $2
H b $1 some # $1 `=
Rep mg H Y s $4
OpF X E r # $4
Mof # '1 # $3
others v $1
List Value $1
.inl rfl $1
dIx # .int # $1 # $3
zm st $1
x.natAbs '2 # `^ `<
_q e $1
ys.length
# \". push &3proj # $1
eOp dIx zd # $1 # $3
D.flat.flats # $1 true `=
.type \"\"list\" %1str $1
okR.bind # $1 \". imp &3proj # $1
\"\"thing\" %1str [1
\"\"rule\" %1str \"\"lot\" %1str [2
List Addr Obj `× $1
autoParam # true `= aRf $2
zg zV zb zv # # yg # $1 zU # $5 zj $2 $2
lt # # $2 true `=
at2 L k a $3
yX v deal r v $2 $2
# '1000 `≤
.Call .Name # # $2 # [0 pos $4
s.heap.get? # $1 some o $1 `=
lp v $1
\"\"tuple\" %1str
V9 # # s.length # # # # # # $9
Option Int $1
zA # zA # zA # zA # # $2 $2 $2 $2
# e <2
some # $1 none none [3
zg # zb zd '0 $1 zb # zj $2 $2 $2
some .int gp v $1 $1 $1
some .cell $1
stp r v $2
CX1 P w $2
h'.get? # $1 some o $1 `=
vG zb # zb # zj $2 $2 $1
_s.mp # $1
body
vs.length
stp.rep
\"\"_law_pot_here\" %1str
at2 # # # $3 \". natAbs &3proj
.type \"\"tuple\" %1str $1
List Str # `× $1
X.mg # $1 none `=
# [0 <2
decide # # `< $1
.loc l $1
.ex c s $2
L.getD k [0 $2
okR mg E # # # # # $7
zb # zb # zb # zb # # $2 $2 $2 $2
s.heap.objs.size '1 `+
OpR X compareOp # $1 # $3
\"( ! &2hygienicLParen false \", eval e X.env $2 @1 @3 \") &3tuple
Value
pure # $1
k.toNat
\"\"_law_other\" %1str
\"( ! &2hygienicLParen false \", eval # X.env $2 @1 @3 \") &3tuple
some .str nmR r $1 $1 $1
aK zq # $2
some .lst qs.map pD $1 $1 $1
z2A eC .int '1 $1 $1 $1
r_k hr aN zc # $1 aN zc # $1 zh $2 $2 $2
.frz o # $2
kev # lt # $3
zZ z3K hu $1 # # $3
autoParam backTo pos starEach # X.env $2 $2 \". any &3proj # $1 false `= aRf $2
f ρ s $2 \". bind &3proj d s1 # \\2 $1
L.getD a [0 $2
pre # `++ \". map &3proj rD $1
List # $1
\"\"list\" %1str
# \". objs.size &3proj
\"\"_law_one\" %1str
h.toLot
eOp # zd # $1 # $3
zg # zb # zb # zj $2 $2 $2
tOf eOp dNe zd # $1 # $3 $1
.inr # # <2 $1
some T $1
z4u hu $1
jW zb zd # $1 zj $2 $1
dot # v $2
qk vM # $1 $1
ended v $1 false `=
\"\"int\" %1str
\"\"table\" %1str
\"\"_law_place\" %1str
\"\"_law_thing\" %1str
some .loc # $1 $1
Shared \"Prop &1prop ^
# Nat :
d ρ s # \". bind &3proj ρ' s' # \\2 $1 \\3
# \". map &3proj rD $1
tOf eOp dNe # # $3 $1
.ref l $1
VK \"Prop &1prop ^
det '4 # $2
# Bool ^
SqT # H # # $4
.cons # # $2
.fields # $1
I.hok
i.natAbs
vs.toArray
R.ok # # $2
ρ s # \\2
\"\"_law_at\" %1str
h.ne
h.get? # $1 some # $1 `=
at2 L # # $3
tOf eOp # # # $3 $1
X.env.scope.names.lookup # $1 some .local $1 `=
.bl true $1
h.here r # $2
List α $1
List Option Nat $1 $1
op2 vr rfl $1 # $2
# # # # os <5
.scr iL ns $1 $1
.int b $1
xD zc '1 $1 # $2
eSl # yD # $1 zE $3
# \". get? &3proj # $1 some # $1 `=
Gl X x $2
H b $1 none `=
z1N T # # $3
tOf eOp dEq # # $3 $1
X.base
i hi # \\2
rfl # <2
some # $1 some # $1 # none [4
.Name x # $2
Tab n # $2
jJ tOf # $1 $1
decide # # `= $1
.ok .non s $2
zN r ls $2 \". map &3proj tD $1
some x $1
some # $1 some # $1 some # $1 none [4
some # $1 some # $1 none [3
some .int # Nat : $1 $1
LotB n m v $3
i v.length `<
RE X E e # $4
zb # zb zd # $1 zb zd # $1 zj $2 $2 $2
at2 L # a $3 \". natAbs &3proj
\"\"range\" %1str
af.toArray
'1000
X.mg
* * * # \\3
# \". toNat &3proj
.Call # # # # $4
ns.length
'1000000000000000000000000000000
.bl false $1
\"λ k @1 \": Nat &2typeSpec @1 \"=> D.int # $1 &4basicFun &2fun
zp zO # $1 $1
Array Nat $1
Option D $1
# # rfl # <4
.Name # p2 $2
wpAny # # # # # s $6
eOp yC zd # $1 # $3
z0u mg # # ρ # $5
xA v.length i $2
Den mg H Y d v $5
v.getD b '0 $2
upd H p # $3
v.getD '0 '0 $2
kA r v $2
\"\"bool\" %1str
X.env.kindOf # $1
s.toks
\"\"_law_size\" %1str
\"\"_law_rule\" %1str
h.nn
s.heap.get? # $1 some # $1 `=
.ref s.heap.objs.size $1
Hs # # # # base # # # # $9
# \". map &3proj tD $1
List List Int $1 $1
X.fn # $1 true `=
Sto R # $1 ^
X.N @0 \"[ i \"] @0 \"? %7term__[_]_? some # $1 `=
RE X E # fa $4
eOp xh zd # $1 eC .int '1 $1 $1 $3
# \". map &3proj rL $1
.int a $1
H' # $1 none `=
fb ρ s1 $2
eSl # zE yD # $1 $3
.ListComp az # scope pos $4
.Name y py $2
Run r # ls $3
yE T.q # rfl $2 # hr * # \\2 # $4
V9 t n s.length some .int a $1 $1 x4 x5 # x7 x8 $9
\"\"turn\" %1str
\"\"str\" %1str
o.cls
# \". isSome &3proj
\"\"_law_line\" %1str
wpAny model # # $2 # # # # # $6
List.toArray List.range # $1 $1
h'.get? # $1 some # $1 `=
W.nsIn # mainGlobals # $3
List # # `× $1
starEach # env $2
absurd rfl # $2
zg # zb zd # $1 zb zd # $1 zj $2 $2 $2
ps.getD i # $2
yp mg # # # # $5
_h rfl $1
* # <2
.ok # s3 $2
eOp yC # # $3
OpR X binaryOp # $1 # $3
eval o X.env $2
.ok # s L.map rL $1 [1 `++ $2
tg iter aC # <4
fa ρ # $2
H p $1 none `=
\"\"enumerate\" %1str
\"\"isinstance\" %1str
b o e # \\3
s'.heap
O H Q # \\3
_r.mp # $1
D.tup # $1
lexN # # $2
back # $1
deal # v $2
X.env.cells.lookup # $1 some # $1 `=
T.q # rfl $2
autoParam # aLr $2
List Keyword $1
okR.here # r # $3
# # rfl # # <5
# \". set &3proj # some # $1 $2
I.hok # * # $3
tyD # $1 \". isSome &3proj true `=
yI vr rfl $1 $1
z9Y # # # T.f8 # # # $7
.dK ah $1
.ok .loc s.length $1 # $2
.ok tD # $1 s $2
Tab n T $2
.ok .nx # $1 s1 $2
z5S # yg # $1 # $3
_ao * $1
_w * rfl $2
mvd r # $2
upd H a # $3
\"\"NoLot\" %1str
\"\"NoRule\" %1str
askQ
items
names
\"\"by\" %1str
\"\"_law_some\" %1str
getD_mem # $1
eval # X.env $2
I.ok.hd hc $1
.BoolOp # # pos $3
some rL # $1 $1
_t.mp hx $1
maxL others v $1 $1
wm # T.f13 # $3
nz # $1 \". length &3proj
r_k hr aN zc '0 $1 zh $2 $2
# \". all &3proj x # \\1 $1
yp mg H Y xs vs $5
some d $1 some e $1 [2
eOp dIx # # # # $5
eOp dIx zd # $1 eC .int '0 $1 $1 $3
xD zc '2 $1 # $2
mg # $1 none `=
kY # zp # $1 yy $3
V9 t n s.length some .int a $1 $1 x4 x5 # # # $9
z0g n zN r ls $2 $2
.bl b $1
x H1 # \\2
.Tuple # # # $3
x y H Q # \\4
items.size
d hd # \\2
\"\"number\" %1str
\"\"_law_found\" %1str
\"∀ d e @2 \": D &2typeSpec @1 \", # &5forall
'1999
List.replicate # # $2 \". flatten &3proj
backTo # starEach # X.env $2 $2
zb zd # $1 zb zd # $1 zj $2 $2
ns.map V.int $1
zg yF zb zd # $1 zj $2 $2
upd H # # $3
Sco # s.heap # # $4
aK zq zh $2
some .builtin # $1 $1
.lst ys $1
\"\"lot\" %1str [1
zaP rsX # zd '0 $1 $3
K.In h $1
# \". getD &3proj # [0 $2
z1t T.FM # # T.f8 # zc '0 $1 $6
xS st $1
inner mp O $2
model prog w $2
o.data
iter
s.heap.push # $1
NameKind.free
acc.length
\"\"divisor\" %1str
zb # zb zd # $1 zj $2 $2
HT.sIx xs.length # # $3
\"if # \"then # \"else none %6termIfThenElse
ns.map D.int $1
en.mono stp $1
.inr .inr # $1 $1
pt.map tD $1
r_k hr aN zc # $1 # $2 $2
ρ.set i # $2
\"( ! &2hygienicLParen \"( ! &2hygienicLParen \"\"NoTable\" %1str Str : \", # Str : @1 @3 \") &3tuple \", false @1 @3 \") &3tuple
\"( ! &2hygienicLParen \"( ! &2hygienicLParen \"\"NotFair\" %1str Str : \", # Str : @1 @3 \") &3tuple \", false @1 @3 \") &3tuple
I.tok * $1
.head * $1
\"( ! &2hygienicLParen \"( ! &2hygienicLParen \"\"NoRule\" %1str Str : \", # Str : @1 @3 \") &3tuple \", false @1 @3 \") &3tuple
maxL v $1
kY # zp zO # $1 $1 yy $3
starEach es X.env $2
some i $1
Gl X # $2
\"( ! &2hygienicLParen \"( ! &2hygienicLParen \"\"NoLot\" %1str Str : \", # Str : @1 @3 \") &3tuple \", false @1 @3 \") &3tuple
eC .bl false $1 $1
Tab n A $2
some .Constant .str # $1 # # $3 $1
\"\"ValueError\" %1str
s.abs
\"\"zip\" %1str
xs.set # # $2
List.range # $1
X.pn
I.free
ae s O H Q I h # \\7
name
s1.heap.objs.size
af.toArray.size
ds s1 # \\2
\"\"thing\" %1str
l.length
hv.toLot
# X.env.locals `≠
List.range n $1
* * False \\2
eOp xh zd # $1 # $3
zv # # yg # $1 # # $5
zv # # yg # $1 zU # $5
p D.tup # $1 \\1
ns.getD # '0 $2
.Tuple # kt # $3
none none [2
Q.getD # '0 $2
zn # $1 \". trans &3proj # $1
Den mg H Y # # $5
minL nz # $1 $1
some .int uk v $1 $1 $1
okR # E # # # # # $7
some V $1
at0 p n0 $2
xw xs us $2
r_k hr aN zc # $1 aK zq zh $2 $2 $2
yp mg H Y ds vs $5
fOr jJ tOf # $1 $1 # $2
valS # w $2
wq zc '0 $1 $1
wU mp ρ $2
some .loc s.length '1 `+ $1 $1
\"\"all\" %1str
\"\"NoTable\" %1str
\"\"NotFair\" %1str
h.objs.size
X.stack
X.fs
I.bare
s₁
I.kIn
_az.mp # $1
z.symm
xs s1 # \\2
ag.rep
this
\"\"lines\" %1str
\"\"_law_table\" %1str
h.row # # $2
h.sz
LeS.calm
aN zc # $1 # $2
w.withFollow \"\"special-get-raises\" %1str # $2
wx # .builtin # $1 # $3
some .loc S.length $1 $1
zN r ls $2
Array.mk [0 $1
hd.getD a # $2
List Nat $1
.Constant # j # $3
# \". lookup &3proj # $1 some # $1 `=
T.getD # [0 $2
z.getD # '0 $2
o e zI # # # $3 \\2
LotB n '104 v $3
z65 hr z1H # $3
_U # rfl rfl # $4
# # none none none [5
zD yG # zq $3
# \". map &3proj s # \\1 $1
decide # # `≤ $1
X.env.locals
I.os
args
scope.names.lookup # $1
af.length
items.length
maxL # $1
minL # $1
qs.length
Dd.D.int # $1
L.set # # $2
autoParam # aDe $2
vs.toArray.zip vs.toArray $1
r_k hr # $2
* # H Y s ds vs Q r hd h # \\9 <3
W.boot_heap w.params $1
p.toList.map i # \\1 $1
.type \"\"dict\" %1str $1
f ρ s $2 \". bind &3proj # $1
zdO # # v.length # $4
LCg.lst af $1
List.zip # # $2 \". map &3proj # $1
scope.kind .function `=
A.deeper envOfC # # s.heap.objs.size # # $5 $1
_t.mp hr $1
eval # env $2
l.map g $1
xw # us $2
Den gm X $1 $1
some zaT # # $2 $1
.type T $1
.ref it $1
Binds # fd # # $4
xs.length cap `≤
yf # N' scope # s₃ # $6
some Q $1
some W $1
z3T zq $1
eOp z8L zd # $1 # $3
some tD kA r v $2 $1 $1
zaU X.N scope.names # # $4
wT # rfl $2
zP zd '3 $1 $1
elim # hd # # $4
autoParam Loc X.env.scope # $2 aOr $2
X.outer
b o hb e # \\4
j.toNat
codeAny # # # # # $5
i.toNat
j.natAbs
ρ d s1 # \\3
maxL_mem # $1
\"\"numbers\" %1str
\"\"_law_numbers\" %1str
s0.length
yw.nd
h.natAbs
seqObj \"\"list\" %1str # # $3
Inv X ae # # # $5
bootBuiltins # $1 some # $1 `=
ixN xs.length # $2
Dd.D.int '0 $1
xs.foldl # x $2
absurd # _aH # $1 $2
RV # # s.length # # $5
some bad $1
Passes CX # # $3
_aa # # * * z # \\3 $3
RW.rt zcY # # $2 $1
.ok true s $2
aK xY aK xY # $2 $2
.str \"\"least\" %1str $1
O H Q t # # # $3 \\3
vals1 r $1
zX # zY.nd # $3
foldedSetIterable iter X.env # $3
Nat Bool ^
.str \"\"next\" %1str $1
.bool b $1
I.pin p # $2
_bd # I.kIn # # # # $6
pure x $1
autoParam \"∀ x @1 @0 \", # &5forall aIr $2
z2l hd $1
iL acc $1 [1
.dT ah $1
\"\"sorted\" %1str
\"\"DrawError\" %1str
Value.ref # $1
xs.drop # $1
# \". filter &3proj # $1
bootBuiltins # $1
X.ex
I.len
I.freeC
I.tuple # $1
D O H # \\3
True.intro
NameKind
v hv # \\2
scope.names
ht.typeIs
.dict # $1
ρ x s1 # \\3
IsPair # # # # $4
L2.Inv # # # # # $5
\"\"column\" %1str
\"\"places\" %1str
\"\"quotients\" %1str
\"\"_law_own\" %1str
B.map # $1
M.lt
i hi j # \\3
s.heap.update # Obj.mapSeq # $1 $2
List.replicate v.length # $2
Inv X ae O H # $5
z1m i j d t H Q e q # \\8 $1
wpAny model X.prog X.w $2 X.A # # # # $6
attributeBase # # X.env # $4
PyData.canLay0 # $1 true `=
sIx items.size # # $3
tuples' true $1
.type \"\"range\" %1str $1
# \"\"__name__\" %1str `≠
\"∀ ex s H @3 @0 \", zd8 # # # $3 &5forall
dn.mono ag $1
\"∀ ex s H @3 @0 \", PG # # # $3 &5forall
I.list hq $1
ps.zip us $1
b o e _g # # $2 \\3
wx # .builtin # $1 xs H Q # \\3 $3
O.set # some v $1 $2
dII i j # \\2 $1
listOf s # $2
call2 vr rfl $1 vr rfl $1 $2
_af hp $1
.ok .ret # $1 $1
some .lst nL ps $1 $1 $1
some rL hd $1 $1
mainGlobals
Addr
I.loc
_I.mp # $1
s₂
False.elim # $1
I.kept # $1
List.replicate # # $2
\"\"size\" %1str
\"\"_law_script\" %1str
'2147483587
\"\"_law_many\" %1str
\"\"_law_due\" %1str
x.natAbs
q.len
PyData.depth # $1
LeM.mof # $1
L.map rL $1
.loc s.length $1
List Option # $1 $1
deal r v $2
cellsFrom # scope.names # $3
s.heap.push itO # # $2 $1
I.hok.fresh _l # $1 $1
swapsWith # # # X.env $4
seqObj \"\"list\" %1str vs.toArray # $3
vs.length ps.length `=
env.kindOf n $1
.Subscript # # pos $3
some .loc s0.length $1 $1
tb.lookup k $1
.Attribute # # ap $3
env.scope.kind .function `==
e.trans h1 $1
pure false $1
eIs \"\"tuple\" %1str # $2
frs outer $1
# rfl # # <4
det '4 # $2 \". natAbs &3proj
i j .int # $1 \\2
r.drop n $1
List Env $1
x D.int # $1 \\1
z82 # T.f18 # $3
# \". filter &3proj p # \\1 $1
qI # # hr hc # \\2 # $4
d.flat true `=
_I.mp # $1 \". elim &3proj # # $2
A.getD # [0 $2
V.ref b $1
l.map f $1
\"\"one\" %1str \"\"other\" %1str [2
.Name x pos $2
List Str Str `× $1
List Int Int `× $1
K.lookup # $1
\"\"BaseException.__getattribute__\" %1str
W.kitOne # # # $3
\"\"by_next\" %1str
\"\"by_least\" %1str
\"\"by_all\" %1str
\"\"by_turn\" %1str
\"\"is_showing\" %1str
\"\"showing\" %1str
seenQ # $1
prog
us.length
xs.take # $1
I.ok
False
ae s O H D I h # \\7
# \". toArray &3proj
cLine
s₁.heap
r.map # $1
_ad.mp # $1
mg.K
h.imp # # $2
ρ xs s1 # \\3
FlV.nx # $1
\"\"tables\" %1str
\"\"_law_top\" %1str
\"\"_law_quotients\" %1str
\"\"_law_lines_here\" %1str
T.f17
u.map # $1
Th.three # # # $3
\"if # \". isEmpty &3proj \"then # \"else # %6termIfThenElse
A.handled none `=
I.tuple hq $1
List Stmt $1
T.map rD $1
A.mark some .ref # $1 $1 $1
ended v $1
maxL ns $1
OpR X binaryOp .Mult $1 # $3
I.cell # c # $3
backToKw # keywordEach # X.env $2 $2
\"\"dict\" %1str
\"\"max\" %1str
\"\"min\" %1str
\"\"Ended\" %1str
\"\"NoBottom\" %1str
\"\"NoCube\" %1str
\"\"NoDeed\" %1str
\"\"NoNumber\" %1str
\"\"NoRoot\" %1str
\"\"NoRow\" %1str
\"\"NoSize\" %1str
\"\"NoStep\" %1str
\"\"NoText\" %1str
\"\"NoTuple\" %1str
\"\"NotAlike\" %1str
\"\"TooMany\" %1str
Shared
xs.map # $1
I.ok.above
I.hok # # # $3
I.base
I.cell
_e.mp # $1
holding # # $2
pos.line
I1.kept # $1
# \". lookup &3proj # $1
IsPart # # $2
HT.sIx # # # $3
r.drop # $1
xs.all # $1
loose
s₃.heap.objs.size
ρ.length
okR.here # # # $3
toPys # $1
s2.set # # $2
maxL_ge # # $2
bools # $1
List.range' # # $2
l.map # $1
x.toNat
lexLt # # $2
L.map # $1
p.size
\"\"own\" %1str
\"\"_law_more\" %1str
\"\"_law_by\" %1str
\"\"_law_later\" %1str
List.zipWith # # # $3
T.map # $1
v1.length
ps.map # $1
\"\"_law_least\" %1str
z3d.nd
g.row # # $2
k h1 h2 # \\3
.builtin \"\"object.__class__\" %1str $1
\"∀ \"( w @1 \": World @2 @0 \") &5explicitBinder \"( os @1 \": OsState @2 @0 \") &5explicitBinder @2 @0 \", # some # $1 `= &5forall
LotB n # # $3
List.replicate # none $2
sc.names.lookup x $1
assignEach # X.env $2
h.Ns mainGlobals # $2
h1.here stp.rep # $2
.seq af.toArray # $2
zdw # scope.names # $3
ys.length sizeLine `≤
yp mg H Y # vs $5
s.heap.push seqObj \"\"list\" %1str # # $3 $1
I.base.there b # # # $4
Bn.other rfl # $2
model X.prog # $2
Option Addr $1
Bn.tup x hx # \\2 $1
# \". update &3proj s.heap.objs.size Obj.mapSeq # $1 $2
K.lookup a $1
W.keepIn # .ref # $1 $2
z65 hr # # $3
.seq # \". toArray &3proj $1
v.foldl cg # $2
s₁.heap.get? # $1 some # $1 `=
hr # getD_mem # $1 $2
seqObj \"\"tuple\" %1str vs.toArray # $3
Gl X \"\"range\" %1str $2
ps.getD j # $2
x.fdiv h $1
toPys xs $1
ls.length '50000 `≤
absurd z # $2
h.step r # $2
start # vs $2
af.toList
\"\"__class__\" %1str
Sum.inl # $1
.local
* * * H * I h # \\7
pyNext # $1
b hb o e # \\4
A.units
s.TypeIs # # $2
ns.map # $1
yp.cons # # $2
b.length
b.toNat
findBy # # # $3
Cx.at_ # # # $3
ExcCls # # $2
arrOf # $1
z.length
kasC_bind # $1
\"\"_law_total\" %1str
'2147483629
\"\"_law_lots\" %1str
\"\"_law_tables\" %1str
Pm.dot # # $2
u.length
ls.length
List.zip # # $2
\"λ p @1 \": Int Int `× &2typeSpec @1 \"=> # &4basicFun &2fun
K.map # $1
Bn.tup # $1
getD_get # $1
w.length
Q.length
\"\"_law_e\" %1str
Pg.yj
Pg.zC
yL.nd
wA.nd
L.drop # $1
kb.kd
envOfC # # s.heap.objs.size # # $5
List.range v.length $1
List.zipWith line q # \\2 # # $3
W.openGood # looseQ $2
behindInMarks op # $2
one qs.length $1
stp # v $2
some .loc S0.length $1 $1
Ms.lookup y $1
ns.idxOf k $1
ap.endLine ak.line `==
_U # # rfl # $4
call .builtin # $1 # $2
\"∀ ex s H @3 @0 \", RE # E # # $4 &5forall
r.take n $1
_r.mp hx $1
h.get? # $1
W.SharedT
PySem.Challenge.pw_drawndown_k23_showings
W.boot_drawn
W.boot_toks
Paired # # # $3
I.base.keep # # # # # # $6
I.base.slot # # # # # # $6
b o e n hb hx # \\6
I.ok.kind
s'.os
isTrue # # # $3
X.wish # $1
s1.heap.push # $1
s1.heap
# \". contains &3proj # $1
* * * * * * * q # \\8
A.depth
BindsTo # # # # $4
bindArgs # # $2
kindOf
Builtin.Slice.slicePlaces # # # $3
x lo hi H Q # \\5
pl.isList
callerA
aF.line
Y.length
r.cell # # # $3
ds.length
bs.length
intsOf # $1
_aj.mp # $1
x.bind # $1
vs H Q E h # \\5
dif_pos # $1
s1.take # $1
sT.abs.heap
xs.size
Cx.mk_ # # # $3
ρ s a s' e # \\5
kas_item # $1
p.toList.Perm # $1
kas_count # # $2
kas_st # # # $3
\"\"at_column\" %1str
\"\"place\" %1str
\"\"greatest\" %1str
\"\"others\" %1str
\"\"_law_k\" %1str
\"\"_law_mine\" %1str
\"\"_law_sides\" %1str
\"\"_law_most\" %1str
\"\"_law_far\" %1str
\"\"_law_odd_here\" %1str
r.take # $1
A.length
v.idxOf # $1
_cL.mp # $1
qF.mpr # $1
h.nzne
dl.lt
h.le4
Pm.getD_mem # $1
d e hd he # \\4
# \". eraseIdx &3proj # $1
S.length
\"\"quotient\" %1str
Has.mono # # $2
xI.nd
yn.nd
q.natAbs
m.natAbs
g.len
B.zipIdx # $1
Loc X.env.scope # $2
Den mg # # # # $5
LeS.seq # LeS.seq # # $2 $2
.of_wp prog w A R s h # \\6 $1
LeS.drop LeE.call # $1 $1
AllBare s'.gens $1
* * h' h'.elim \\3
z0u # # # ρ # $5
False.elim hq $1
Txt.slice # # none $3
List.take n $1
Option Bool $1
Option Dd.D $1
Array Keyed $1
kev ps.length # # $3
.Subscript # # p1 $3
qs.filter a # \\1 $1
ys.getD # .non $2
L'.map rL $1
pure true $1
Heap.FlyingW # # ea # # # $6
IntsAre # ns $2
h1.here r1 # $2
absurd # _ay $2
.Subscript a # # $3
I.base.free b # # # # $5
AllBare # $1
dn.mono # $1
e.trans # $1
minL_mem # $1
D.int
T.f13
zY.nd
\"∀ \"( kV aE pm @3 \": Value @2 @0 \") &5explicitBinder \"( an @1 \": Option Addr @1 &2app @2 @0 \") &5explicitBinder \"( aj ct @2 \": Value @2 @0 \") &5explicitBinder \"( us @1 \": List Value @1 &2app @2 @0 \") &5explicitBinder @4 @0 \", # # ^ &5forall
pushCells # scope.names $2
p.toList.Pairwise i j # \\2 $1
X.s₀.heap.get? b $1
kas_sort ps.length $1
swapsWithSole # # pos.line # $4
I1.fpOk # I1.hok.fresh # $1 $2
s'.heap.get? acc $1
swappedStores # # X.env $3
Y1.take Y.length $1
List.range # $1 \". filterMap &3proj # $1
s.heap.IsSliceOf sl # # # $4
Array GenState $1
LeS.if_ # LeS.rfl $2
X.base.get? b $1
\"∀ \"{ ds @1 \": List D @1 &2app @2 \"} &4implicitBinder \"{ vs @1 \": List V @1 &2app @2 \"} &4implicitBinder @2 @0 \", # # ^ &5forall
strKind X.prog # $2
p.toList.length # `=
qF.mp minL_mem # $1 $1
List.lookup x # $2
Option Expr $1
bs.idxOf k $1
Option Str $1
xs.all isI $1
yt j.toNat $1
.function
w.params
treeTable
I.hok.fresh # $1
cellsFrom # # # $3
LCg.lst # $1
D.flat.flats # $1
Prod.fst
\"∀ \"( aj @1 \": Value @2 @0 \") &5explicitBinder \"( A @1 \": Around @2 @0 \") &5explicitBinder \"( outer @1 \": List Env @1 &2app @2 @0 \") &5explicitBinder \"( s @1 \": Shared @2 @0 \") &5explicitBinder \"( H @1 \": Hp @2 @0 \") &5explicitBinder \"( E @1 \": XK @2 @0 \") &5explicitBinder @6 @0 \", # # ^ &5forall
importedModules p.main.body $1
\"∀ \"( names @1 \": List \"( ! &2hygienicLParen Str NameKind `× \") &3paren @1 &2app @2 @0 \") &5explicitBinder \"( acc @1 \": List \"( ! &2hygienicLParen Str Addr `× \") &3paren @1 &2app @2 @0 \") &5explicitBinder @2 @0 \", # # ^ &5forall
Builtin.SmallTypes.nextOf .ref # $1 $1
Builtin.Tuple.tupleExact * $1
ap.endLine # `==
.type \"\"StopIteration\" %1str $1
pure ForInStep.yield # $1 $1
base.Ns mainGlobals # $2
af.toArray.any eqU # $1 $1
Rn.fair h.toLot $1
qs.map Prod.fst $1
zaO # # s2 e2 St W st bd bx # \\7 $3
s'.heap.get? b $1
w.withFollow row # $2
ziC X.env.kindOf scope.names $2
Vis X.env.scope # $2
L.map List.drop # $1 $1
.loc s1.length $1
W.kas_sort n $1
sortedAll s.heap # # $3
* * z z.freeze \\3
wpAny_letGo _m # $1 $1
W.topFrom treeTable # # # # $5
failedOf ay $1
env.kindOf # $1
s.heap.get? # $1
I1.hok.fresh # $1
Obj.mapSeq # $1
qs.map pD $1
importedModules # $1
s.heap.update # # $2"
def zL:Array String:=(zTab.splitOn "\n").toArray
def zK(k:Lean.Name)(l:List Lean.Syntax):Lean.Syntax:=.node .none k l.toArray
def zT(k:String)(l:List Lean.Syntax):Lean.Syntax:=zK (.str `Lean.Parser.Term k) l
def zO(s:String):Lean.Syntax:=Lean.mkAtom s
def zI(s:String):Lean.Syntax:=Lean.mkIdent s.toName
def zN(k:Lean.Name)(l r:String)(ys:List Lean.Syntax):Lean.Syntax:=zK k [zO l,zK `null (ys.intersperse (zO ",")),zO r]
def zF(d:Nat)(s:Nat×List Lean.Syntax)(x:Lean.Syntax):Nat×List Lean.Syntax:=(s.1,x::s.2.drop d)
def zG(n:Nat)(s:Nat×List Lean.Syntax):Lean.Syntax:=s.2.getD n .missing
def zX(xs:Array Lean.Syntax)(n:Nat):Lean.Syntax:=xs.getD n .missing
def zS(xs:Array Lean.Syntax)(p:Nat×List Lean.Syntax)(t:String):Nat×List Lean.Syntax:=
 let c:=t.front
 let u:=(t.drop 1).toString
 let g:=u.front.toNat-48
 let w:=(u.drop 1).toString
 let ys:=(p.2.take g).reverse
 let a:=zG 1 p
 let b:=zG 0 p
 let h:=zK `hygieneInfo [Lean.mkIdent .anonymous]
 if c=='#' then (p.1+1,zX xs p.1::p.2)
 else if c=='"' then zF 0 p (zO u)
 else if c=='!' then zF 0 p h
 else if c=='.' then zF 0 p (zT "dotIdent" [zO ".",zI u])
 else if c=='*' then zF 0 p (zT "hole" [zO "_"])
 else if c=='\'' then zF 0 p (zK `num [zO u])
 else if c=='`' then zF 2 p (zK (.mkSimple ("term_"++u++"_")) [a,zO u,b])
 else if c=='^' then zF 2 p (zT "arrow" [a,zO "→",b])
 else if c==':' then zF 2 p (zT "typeAscription" [zT "hygienicLParen" [zO "(",h],a,zO ":",zK `null [b],zO ")"])
 else if c=='<' then zF g p (zN `Lean.Parser.Term.anonymousCtor "⟨" "⟩" ys)
 else if c=='[' then zF g p (zN `«term[_]» "[" "]" ys)
 else if c=='@' then zF g p (zK `null ys)
 else if c=='$' then zF (g+1) p (zT "app" [zG g p,zK `null ys])
 else if c=='%' then zF g p (zK (.mkSimple w) ys)
 else if c=='&' then zF g p (zT w ys)
 else if c=='\\' then zF (g+1) p (zT "fun" [zO "fun",zT "basicFun" [zK `null ((p.2.drop 1).take g).reverse,zK `null [],zO "=>",b]])
 else zF 0 p (zI t)
def zH(xs:Array Lean.Syntax)(p:Nat×List Lean.Syntax):List String->Nat×List Lean.Syntax
 | []=>p | t::l=>zH xs (zS xs p t) l
def zV(c:Char):Nat:=let n:=c.toNat;if n<58 then n+4 else if n<91 then n-39 else n-97
def zP(s:String):String:=zL.getD (match s.toList with | [a,_]=>zV a | [a,b,_]=>52+62*zV a+zV b | _=>10000) ""
def zA(s:String)(xs:Array Lean.Syntax):Lean.Syntax:=
 if s.back != '!' then .missing else
 let r:=zP s
 if r.isEmpty then .missing else
 let p:=zH xs (0,[]) (r.splitOn " ")
 if p.1==xs.size then zG 0 p else .missing
def zC(x:Lean.Syntax)(xs:Array Lean.Syntax):Lean.Syntax:=match x.getId with | .str .anonymous s=>zA s xs | _=>.missing
def zD(x:Lean.Syntax):Bool:=match x.getId with | .str .anonymous s=>s.back=='!' | _=>false
def zE(x:Lean.Syntax):Lean.Syntax:=if zD x then (let y:=zC x #[];if y.isMissing then x else y) else x
def zB(x:Lean.Syntax)(xs:Array Lean.Syntax):Lean.MacroM Lean.Syntax:=if zD x then (let y:=zC x (xs.map zE);if y.isMissing then Lean.Macro.throwUnsupported else pure y) else Lean.Macro.throwUnsupported
end Zd
local macro_rules | `($f:ident $xs*)=>Zd.zB f xs
local macro_rules (kind:=ident) | `($f:ident)=>Zd.zB f #[]
open PySem PySem.Spec PyProof.Rows
noncomputable abbrev _a:=@wpAny_bind
noncomputable abbrev _b:=@List.getElem?_eq_getElem
noncomputable abbrev _c:=@List.getElem?_cons_zero
noncomputable abbrev _d:=@List.getElem?_cons_succ
noncomputable abbrev _e:=@List.getElem?_eq_some_iff
noncomputable abbrev _g:=@Heap.get?_push_of_some
noncomputable abbrev _h:=@if_pos
noncomputable abbrev _i:=@List.length_cons
noncomputable abbrev _j:=@Nat.lt_of_lt_of_le
noncomputable abbrev _k:=@List.length_nil
noncomputable abbrev _l:=@Nat.le_refl
noncomputable abbrev _m:=@wpAny_pure
noncomputable abbrev _n:=@List.getD_eq_getElem?_getD
noncomputable abbrev _o:=@if_neg
noncomputable abbrev _p:=@List.map_cons
noncomputable abbrev _q:=@Heap.lt_size
noncomputable abbrev _r:=@List.mem_iff_getElem
noncomputable abbrev _s:=@List.mem_cons
noncomputable abbrev _t:=@List.mem_map
noncomputable abbrev _u:=@List.size_toArray
noncomputable abbrev _v:=@if_true
noncomputable abbrev _w:=@Heap.get?_push_size
noncomputable abbrev _x:=@List.mem_of_getElem?
noncomputable abbrev _y:=@Option.some.injEq
noncomputable abbrev _z:=@List.mem_or_eq_of_mem_set
noncomputable abbrev _A:=@Nat.pow_le_pow_right
noncomputable abbrev _B:=@List.set_cons_zero
noncomputable abbrev _C:=@List.getElem?_map
noncomputable abbrev _D:=@Nat.ne_of_lt
noncomputable abbrev _E:=@List.set_cons_succ
noncomputable abbrev _F:=@List.getElem?_append_left
noncomputable abbrev _G:=@PassesOwn.never
noncomputable abbrev _H:=@List.mem_cons_of_mem
noncomputable abbrev _I:=@List.mem_append
noncomputable abbrev _J:=@Option.some.inj
noncomputable abbrev _K:=@List.getElem?_eq_none
noncomputable abbrev _L:=@Function.comp_def
noncomputable abbrev _M:=@Option.bind_some
noncomputable abbrev _N:=@List.mem_append_right
noncomputable abbrev _O:=@List.getElem_mem
noncomputable abbrev _P:=@List.all_eq_true
noncomputable abbrev _Q:=@PyProof.Rows.slot_tuple_getitem
noncomputable abbrev _R:=@Bool.and_eq_true
noncomputable abbrev _S:=@List.mem_of_mem_take
noncomputable abbrev _T:=@Int.toNat_natCast
noncomputable abbrev _U:=@wpAny_field
noncomputable abbrev _V:=@List.lookup_cons
noncomputable abbrev _W:=@List.not_mem_nil
noncomputable abbrev _X:=@List.length_map
noncomputable abbrev _Y:=@Classical.byContradiction
noncomputable abbrev _Z:=@Nat.le_trans
noncomputable abbrev _aa:=@wpAny_mono
noncomputable abbrev _ab:=@PyProof.Rows.callWith_type1
noncomputable abbrev _ac:=@List.getElem?_set_ne
noncomputable abbrev _ad:=@Bool.and_eq_true_iff
noncomputable abbrev _ae:=@decide_eq_false
noncomputable abbrev _af:=@List.of_mem_zip
noncomputable abbrev _ag:=@wpAny_callSpecial?_slot
noncomputable abbrev _ah:=@Option.map_some
noncomputable abbrev _ai:=@List.getElem?_set_self
noncomputable abbrev _aj:=@Option.map_eq_some_iff
noncomputable abbrev _ak:=@List.map_map
noncomputable abbrev _al:=@List.mem_cons_self
noncomputable abbrev _am:=@List.getElem?_take_of_lt
noncomputable abbrev _an:=@wpAny_setField_rec
noncomputable abbrev _ao:=@Nat.zero_le
noncomputable abbrev _ap:=@PySem.mem_of_lookup
noncomputable abbrev _aq:=@Nat.zero_add
noncomputable abbrev _ar:=@List.nil_append
noncomputable abbrev _as:=@wpAny_Call_Name_kw
noncomputable abbrev _at:=@List.zipWith_cons_cons
noncomputable abbrev _au:=@wpAny_loadPart'
noncomputable abbrev _av:=@wpAny_call_entry
noncomputable abbrev _aw:=@List.filter_cons
noncomputable abbrev _ax:=@decide_eq_true_eq
noncomputable abbrev _ay:=@Bool.false_ne_true
noncomputable abbrev _az:=@beq_iff_eq
noncomputable abbrev _aA:=@Int.natAbs_mul
noncomputable abbrev _aB:=@Nat.mul_le_mul_right
noncomputable abbrev _aC:=@List.mem_of_mem_drop
noncomputable abbrev _aD:=@List.sum_cons
noncomputable abbrev _aE:=@Option.getD_some
noncomputable abbrev _aF:=@List.getElem?_range
noncomputable abbrev _aG:=@wpAny_newObj_type
noncomputable abbrev _aH:=@Nat.lt_irrefl
noncomputable abbrev _aI:=@Heap.size_push
noncomputable abbrev _aJ:=@decide_eq_true
noncomputable abbrev _aK:=@List.append_nil
noncomputable abbrev _aL:=@List.mem_range
noncomputable abbrev _aM:=@congrArg
noncomputable abbrev _aN:=@wpAny_loadPart_at
noncomputable abbrev _aO:=@List.replicate_succ
noncomputable abbrev _aP:=@List.length_drop
noncomputable abbrev _aQ:=@Nat.lt_or_eq_of_le
noncomputable abbrev _aR:=@List.ext_getElem
noncomputable abbrev _aS:=@wpAny_holding
noncomputable abbrev _aT:=@List.map_drop
noncomputable abbrev _aU:=@if_false
noncomputable abbrev _aV:=@wpAny_truthy_bool
noncomputable abbrev _aW:=@Nat.lt_succ_of_lt
noncomputable abbrev _aX:=@List.length_eq_zero_iff
noncomputable abbrev _aY:=@List.cons.injEq
noncomputable abbrev _aZ:=@Array.length_toList
noncomputable abbrev _a0:=@List.map_congr_left
noncomputable abbrev _a1:=@List.getElem_inj
noncomputable abbrev _a2:=@List.length_append
noncomputable abbrev _a3:=@F.slot_tuple_iterator_next
noncomputable abbrev _a4:=@wpAny_seqItems
noncomputable abbrev _a5:=@Int.mul_ediv_add_emod
noncomputable abbrev _a6:=@Int.mul_neg_of_neg_of_pos
noncomputable abbrev _a7:=@wpAny_passesOwn
noncomputable abbrev _a8:=@List.foldl_cons
noncomputable abbrev _a9:=@Int.emod_nonneg
noncomputable abbrev _ba:=@List.mem_append_left
noncomputable abbrev _bb:=@List.map_set
noncomputable abbrev _bc:=@or_false
noncomputable abbrev _bd:=@W.kia_one
noncomputable abbrev _be:=@List.getElem?_replicate
noncomputable abbrev _bf:=@List.cons_append
noncomputable abbrev _bg:=@Option.bind_eq_some_iff
noncomputable abbrev _bh:=@Int.mul_nonneg
noncomputable abbrev _bi:=@List.map_zipWith
noncomputable abbrev _bj:=@call_meets
noncomputable abbrev _bk:=@SeqAt.canLay_of_shaped
noncomputable abbrev _bl:=@List.mem_singleton
noncomputable abbrev _bm:=@List.filter_eq_nil_iff
noncomputable abbrev _bn:=@Int.emod_lt_of_pos
noncomputable abbrev _bo:=@Int.lt_of_le_of_lt
noncomputable abbrev _bp:=@List.zip_cons_cons
noncomputable abbrev _bq:=@List.mem_filter
noncomputable abbrev _br:=@F.slot_int_rmul
noncomputable abbrev _bs:=@Prod.mk.injEq
noncomputable abbrev _bt:=@W.kia_tup
noncomputable abbrev _bu:=@F.slot_enumerate_next
noncomputable abbrev _bv:=@List.flatten_cons
noncomputable abbrev _bw:=@List.getElem?_append_right
noncomputable abbrev _bx:=@Calls.evalArgs_plain
noncomputable abbrev _by:=@Int.fdiv_eq_ediv_of_nonneg
noncomputable abbrev _bz:=@PySem.F.excBase_ValueError
noncomputable abbrev _bA:=@Int.natAbs_of_nonneg
noncomputable abbrev _bB:=@Nat.le_of_lt
noncomputable abbrev _bC:=@List.zipIdx_cons
noncomputable abbrev _bD:=@wpAny_binaryOp_repeat_ref
noncomputable abbrev _bE:=@List.drop_eq_getElem_cons
noncomputable abbrev _bF:=@List.filterMap_cons
noncomputable abbrev _bG:=@Heap.SameBut.update
noncomputable abbrev _bH:=@List.length_pos_iff
noncomputable abbrev _bI:=@List.filter_eq_self
noncomputable abbrev _bJ:=@PySem.F.args_tuple_add_2
noncomputable abbrev _bK:=@wpAny_comprehension_free
noncomputable abbrev _bL:=@PyProof.noPylong_of_log2
noncomputable abbrev _bM:=@Int.dvd_trans
noncomputable abbrev _bN:=@Ne.symm
noncomputable abbrev _bO:=@Int.ediv_nonneg
noncomputable abbrev _bP:=@List.lookup_append
noncomputable abbrev _bQ:=@Nat.lt_of_le_of_lt
noncomputable abbrev _bR:=@Int.mul_nonneg_of_nonpos_of_nonpos
noncomputable abbrev _bS:=@PySem.F.entry_tuple_add
noncomputable abbrev _bT:=@PySem.F.plainAttrs_list
noncomputable abbrev _bU:=@Nat.pow_add
noncomputable abbrev _bV:=@Nat.le_mul_of_pos_right
noncomputable abbrev _bW:=@List.set_eq_take_append_cons_drop
noncomputable abbrev _bX:=@PySem.F.slot_tuple_add
noncomputable abbrev _bY:=@subscriptTail_builtinR
noncomputable abbrev _bZ:=@wpAny_Call_method_late
noncomputable abbrev _b0:=@Calls.callWith_builtin
noncomputable abbrev _b1:=@List.append_assoc
noncomputable abbrev _b2:=@List.reverse_cons
noncomputable abbrev _b3:=@Heap.get?_push_ne
noncomputable abbrev _b4:=@Int.mul_comm
noncomputable abbrev _b5:=@List.take_append_drop
noncomputable abbrev _b6:=@F.typeOf_object_class
noncomputable abbrev _b7:=@List.zipWith_nil_left
noncomputable abbrev _b8:=@wpAny_eqBool_int
noncomputable abbrev _b9:=@List.length_take
noncomputable abbrev _ca:=@typeIs_int
noncomputable abbrev _cb:=@Nat.lt_succ_self
noncomputable abbrev _cc:=@F.slot_tuple_mul
noncomputable abbrev _cd:=@Nat.mul_lt_mul''
noncomputable abbrev _ce:=@Int.mul_le_mul_of_nonneg_right
noncomputable abbrev _cf:=@wpAny_standAt
noncomputable abbrev _cg:=@List.all_cons
noncomputable abbrev _ch:=@listUpdate_at
noncomputable abbrev _ci:=@List.map_take
noncomputable abbrev _cj:=@wpAny_updateSeq_pair
noncomputable abbrev _ck:=@Int.mul_le_mul_of_nonneg_left
noncomputable abbrev _cl:=@List.map_append
noncomputable abbrev _cm:=@wpAny_execs_nil
noncomputable abbrev _cn:=@List.nodup_cons
noncomputable abbrev _cp:=@F.slot_zip_next
noncomputable abbrev _cq:=@Nat.two_pow_pos
noncomputable abbrev _cr:=@entry_tuple_getitem
noncomputable abbrev _cs:=@List.take_succ_cons
noncomputable abbrev _ct:=@Nat.ne_of_gt
noncomputable abbrev _cu:=@Nat.mul_comm
noncomputable abbrev _cw:=@decide_false
noncomputable abbrev _cy:=@Calls.Constant_str
noncomputable abbrev _cA:=@assignInOrder_cons
noncomputable abbrev _cB:=@wpAny_rule
noncomputable abbrev _cC:=@List.mem_filterMap
noncomputable abbrev _cD:=@Calls.spliced_cons
noncomputable abbrev _cF:=@slicePart_none
noncomputable abbrev _cG:=@args_tuple_getitem
noncomputable abbrev _cH:=@wpAny_newTuple
noncomputable abbrev _cI:=@List.getElem_idxOf
noncomputable abbrev _cJ:=@Bool.false_eq_true
noncomputable abbrev _cK:=@and_true
noncomputable abbrev _cL:=@Nat.not_lt
noncomputable abbrev _cN:=@Int.lt_of_lt_of_le
noncomputable abbrev _cO:=@Bool.and_false
noncomputable abbrev _cU:=@wpAny_assign_Name
noncomputable abbrev _cV:=@Calls.spliced_nil
noncomputable abbrev _cW:=@List.take_sublist
noncomputable abbrev _cX:=@wpAny_sequenceKey
noncomputable abbrev _cY:=@F.args_int_rmul_2
noncomputable abbrev _cZ:=@Nat.le_of_succ_le
noncomputable abbrev _c0:=@Int.le_refl
noncomputable abbrev _c1:=@Nat.le_succ
noncomputable abbrev _c2:=@seqEpoch_at
noncomputable abbrev _c3:=@Nat.le_succ_of_le
noncomputable abbrev _c4:=@bne_self_eq_false
noncomputable abbrev _c5:=@Int.gcd_dvd_right
noncomputable abbrev _c6:=@List.ext_getElem?
noncomputable abbrev _c7:=@decide_true
noncomputable abbrev _c8:=@of_decide_eq_true
noncomputable abbrev _c9:=@List.Pairwise.map
noncomputable abbrev _db:=@wpAny_attempt
noncomputable abbrev _dc:=@wpAny_onRaise
noncomputable abbrev _df:=@wpAny_newList
noncomputable abbrev _dg:=@W.cellsFrom_some
noncomputable abbrev _dh:=@noFill_tuple_add
noncomputable abbrev _di:=@Option.getD_none
noncomputable abbrev _dj:=@F.slot_int_index
noncomputable abbrev _dk:=@F.entry_int_rmul
noncomputable abbrev _dl:=@List.prefix_refl
noncomputable abbrev _dm:=@Nat.le_add_right
noncomputable abbrev _do:=@List.mem_toArray
noncomputable abbrev _dr:=@List.getElem_map
noncomputable abbrev _ds:=@Int.gcd_dvd_left
noncomputable abbrev _dt:=@Int.dvd_antisymm
noncomputable abbrev _du:=@Int.ediv_le_self
noncomputable abbrev _dy:=@codeAny_mono
noncomputable abbrev _dz:=@W.callWith_K
noncomputable abbrev _dA:=@wpAny_typeOf
noncomputable abbrev _dF:=@List.map_nil
noncomputable abbrev _dG:=@Nat.sub_self
noncomputable abbrev _dH:=@Int.dvd_zero
noncomputable abbrev _dI:=@Nat.pow_succ
noncomputable section
namespace Dd
noncomputable def dArgs(s:Stmt):Arguments:=match s with
 | .FunctionDef _ a _ _ _ _ _ _ _ _=>a | _=>{posonlyargs:=[],args:=[],vararg:=none,kwonlyargs:=[],kw_defaults:=[],kwarg:=none,defaults:=[]}
noncomputable def zq3(s:Stmt):ny!:=match s with
 | .FunctionDef _ _ b _ _ _ _ _ _ _=>b | _=>[]
noncomputable def zlQ(s:Stmt):Scope:=match s with
 | .FunctionDef _ _ _ _ _ _ sc _ _ _=>sc | _=>{kind:=sc!,names:=[],isGenerator:=false,isCoroutine:=false}
noncomputable def zdg(h:Heap)(a:Addr):W.Frag:=match p4! a with | some o=>[(a,o)] | none=>[]
noncomputable def zv6(h:Heap)(g:W.Frag)(x:Str):W.Frag:=match gq! g x with
 | some (some (.ref f))=>zdg h f++(match p4! f with
   | some ⟨_,_,.func fd,_⟩=>(match fd.code with | .ref c=>zdg h c | _=>[]) | some ⟨_,_,.cls cd,_⟩=>zdg h cd.ns | _=>[]) | _=>[]
noncomputable def gat(h:Heap)(ns:ao!):W.Frag:=zdg h l6!++ns.flatMap (zv6 h (zdg h l6!))
noncomputable abbrev FV:=Str×Str×Arguments×FuncBody×Scope×l7!×dL! l7!×dX!×l7!×cc!×cc!
noncomputable def zkO(K:W.Frag)(x:Str):bn! FV:=match gq! K x with
 | some (some (.ref f))=>(match mZ! f with
   | some ⟨_,_,.func fd,_⟩=>b! (fd.name,fd.qualname,fd.params,fd.body,fd.scope,fd.globals,fd.closure,fd.defaults,fd.builtins,W.codeIn K fd.code fd.qualname,oV! K f) | _=>none) | _=>none
noncomputable def zrI(x:Str)(st:Stmt):bn! FV:=b! (x,x,dArgs st,.stmts (zq3 st),zlQ st,l6!,[],aa!,builtinsNs,d!,d!)
noncomputable def znF(K:W.Frag)(x:Str):Bool:=match gq! K x with | some none=>true | _=>false
noncomputable def zoQ(K:W.Frag)(x:Str):dt!:=match gq! K x with | some (some (.int i _))=>is! | _=>none
noncomputable def sameRef:dX!->bn! aL!->cc!
 | .ref f,some (some (.ref g))=>f==g | _,_=>false
noncomputable def ziP:dX!->r9!
 | .str k _=>b! k | _=>none
noncomputable def zbQ:eG! dX!
 | .type c=>c==nG! | _=>false
noncomputable def zfu(K:W.Frag):ee! DictEntry->ao!->gr! Int (r9!×cc!)
 | e::es,y::ys=>(e.hash,ziP e.key,sameRef e.val (gq! K y))::zfu K es ys | [],[]=>[] | _,_=>[(0,a!,t!)]
noncomputable def zoc(K:W.Frag)(x:Str)(ys:ao!):bn! (cc!×cc!×cc!×cc!×gr! Int (r9!×cc!)):=match gq! K x with
 | some (some (.ref a))=>(match oU! with
   | some ⟨c,d,.dict es _,sl⟩=>b! (zbQ c,d.isNone,sl.size==0,a==sysModules,zfu K es.toList ys) | _=>none) | _=>none
noncomputable def zsw(w:World)(tb:mX!):bn! (cc!×cc!×cc!×cc!×gr! Int (r9!×cc!)):=b! (d!,d!,d!,t!,tb.map λp=>(PyData.keyHash sd! p.1,b! p.1,d!))
noncomputable def zqY:c3!->bn! h!
 | []=>b! [] | .int i _::r=>(zqY r).map (i::·) | _=>none
noncomputable def zk0:eG! dX!
 | .type c=>c==dr! | _=>false
noncomputable def zsg(K:W.Frag)(x:Str):bn! (cc!×bn! h!):=match gq! K x with
 | some (some (.ref a))=>(match oU! with
   | some ⟨c,_,.seq af _,_⟩=>b! (zk0 c,zqY pa!) | _=>none) | _=>none
noncomputable def bmV:c3!:=[av! iy!,av! "Exception",av! "BaseException",av! "object"]
noncomputable def z7t(K:W.Frag)(C:Addr):Bool:=match mZ! C with | some ⟨.type t,_,.cls _,_⟩=>t=="type" | _=>false
noncomputable def z9D(K:W.Frag)(x:Str):Bool:=match gq! K x with
 | some (some (.ref C))=>W.excIn K C bmV "ValueError.__new__"&&(W.findIn K aR! "__getattribute__"==b! (hV! m0!)&&(W.findIn K aR! "__getattr__"==b! a! && (W.findIn K aR! pb!==b! (b! oB!)&&(W.mroIn K C (av! "object")==b! d!&&(W.mroIn K C (av! "BaseException")==b! d!&&(z7t K C&&m1! K aR! (av! iy!)==b! d!)))))) | _=>false
noncomputable def z8O(K:W.Frag)(x y:Str):bn! (rr!×rr!):=match gq! K x,gq! K y with
 | some (some (.ref C)),some (some (.ref D))=>b! (W.mroIn K C (u! D),m1! K aR! (u! D)) | _,_=>none
noncomputable abbrev Obs:=mp! FV×ee! cc!×ee! dt!×mp! (cc!×cc!×cc!×cc!×gr! Int (r9!×cc!))×mp! (cc!×bn! h!)×ee! cc!×mp! (rr!×rr!)
structure Ask where
 fs:dL! Stmt
 bs:ao!
 cs:dL! Int
 ts:dL! mX!
 us:dL! h!
 xs:ao!
 ps:gr! (Str×Str) cc!
noncomputable def zeB(q:Ask)(K:W.Frag):Obs:=(q.fs.map λp=>zkO K p.1,q.bs.map (znF K),q.cs.map λp=>zoQ K p.1,q.ts.map (λp=>zoc K p.1 (p.2.map (·.2))),q.us.map (λp=>zsg K p.1),q.xs.map (z9D K),q.ps.map λp=>z8O K p.1.1 p.1.2)
noncomputable def obsS(q:Ask)(s:Shared):Obs:=zeB q (gat I! (q.fs.map (·.1)++q.ts.map (·.1)++q.us.map (·.1)++q.xs))
noncomputable def valS(q:Ask)(w:World):Obs:=(q.fs.map λp=>zrI p.1 p.2,q.bs.map λ_=>d!,q.cs.map λp=>b! p.2,q.ts.map (λp=>zsw w p.2),q.us.map (λp=>b! (d!,b! p.2)),q.xs.map λ_=>d!,q.ps.map λp=>b! (b! p.2,b! p.2))
noncomputable def z7B(tb:String->bn! Builtin)(p:Program)(w:World)(n₀:Nat)(dD:aL!):Nat->p5!->Thread->bn! p5!
 | 0,_,_=>none | n+1,s,t=>match W.through t with
  | true=>b! s | false=>match W.stepOk n₀ dD t with
   | false=>none | true=>match W.stepT (denote tb) p w s t with
    | some (s',t')=>z7B tb p w n₀ dD n s' t' | none=>none
noncomputable def zpN(l:ee! Obj):W.BT×Nat:=l.foldl (λa o=>(a.1.ins a.2 o,a.2+1)) (W.BT.nil,0)
noncomputable def zpw(P:Params):W.BT:=(zpN (W.boot_heap P).objs.toList).1
end Dd
namespace Dd
noncomputable def zvk(q:Ask):ao!:=q.fs.map (·.1)++q.ts.map (·.1)++q.us.map (·.1)++q.xs
noncomputable def zq2(k:Nat)(q:Ask)(s:Shared):mp! FV:=(q.fs.take k).map λp=>zkO (gat I! (zvk q)) p.1
noncomputable def zoY(k:Nat)(q:Ask)(s:Shared):Obs:=zeB {q with fs:=q.fs.drop k} (gat I! (zvk q))
noncomputable def zpH(k:Nat)(q:Ask):mp! FV:=(q.fs.take k).map λp=>zrI p.1 p.2
noncomputable def zp2(k:Nat)(q:Ask)(w:World):Obs:=i9! ({q with fs:=q.fs.drop k})
theorem zo7(k:Nat)(q:Ask)(s:Shared):obsS q s=(zq2 k q s++(zoY k q s).1,(zoY k q s).2):=by
 unfold zq2 zoY obsS zeB;rw[<- _cl,_b5];rfl
theorem zop(k:Nat)(q:Ask)(w:World):i9! q=(zpH k q++(zp2 k q w).1,(zp2 k q w).2):=by
 unfold zpH zp2 valS;rw[<- _cl,_b5]
theorem zeV{o:bn! p5!}{f:eG! p5!}{k:Nat}{q:Ask}{w:World}(h1:o.map (λs=>(f s,zq2 k q iz!))=b! (d!,zpH k q))(h2:o.map (λs=>zoY k q iz!)=b! (zp2 k q w)):o.map (λs=>(f s,obsS q iz!))=b! (d!,i9! q):=by cases o with
 | none=>cases h1 | some s=>
  simp only[_ah,_y,_bs]at h1 h2;simp only[_ah,zo7 k,zop k,h1.1,h1.2,h2]
end Dd
namespace aW
open Dd
noncomputable def top(i:Nat):Stmt:=PySem.Challenge.pw_drawndown_k23_showings.main.body.getD i (.Pass ⟨0,0,0,0⟩)
noncomputable abbrev z7w:Stmt:=top 22
noncomputable abbrev z6J:Stmt:=top 24
noncomputable abbrev z0w:Stmt:=top 29
noncomputable abbrev z6b:Stmt:=top 37
noncomputable abbrev z2d:Stmt:=top 39
noncomputable abbrev z38:Stmt:=top 41
noncomputable abbrev z9i:Stmt:=top 43
noncomputable abbrev z9g:Stmt:=top 44
noncomputable abbrev uu:Stmt:=top 46
noncomputable abbrev z23:Stmt:=top 47
noncomputable abbrev z9r:Stmt:=top 48
noncomputable abbrev z8T:Stmt:=top 54
noncomputable abbrev zf2:Stmt:=top 61
noncomputable abbrev z0V:Stmt:=top 73
noncomputable abbrev z7V:Stmt:=top 74
noncomputable abbrev z5c:Stmt:=top 75
noncomputable abbrev z2F:Stmt:=top 77
noncomputable abbrev z4s:Stmt:=top 78
noncomputable abbrev z2C:Stmt:=top 79
noncomputable abbrev z3u:Stmt:=top 81
noncomputable abbrev z79:Stmt:=top 82
noncomputable abbrev z6G:Stmt:=top 86
noncomputable abbrev z3z:Stmt:=top 87
noncomputable abbrev z69:Stmt:=top 89
noncomputable abbrev z0T:Stmt:=top 94
noncomputable abbrev z2B:Stmt:=top 23
noncomputable abbrev z1Y:Stmt:=top 38
noncomputable abbrev z4N:Stmt:=top 42
noncomputable abbrev z98:Stmt:=top 49
noncomputable abbrev z6k:Stmt:=top 50
noncomputable abbrev zbs:Stmt:=top 51
noncomputable abbrev z9p:Stmt:=top 52
noncomputable abbrev z4H:Stmt:=top 55
noncomputable abbrev z7q:Stmt:=top 76
noncomputable abbrev z6u:Stmt:=top 80
noncomputable abbrev z0Y:Stmt:=top 83
noncomputable abbrev z5b:Stmt:=top 84
noncomputable abbrev kN:Stmt:=top 88
noncomputable abbrev z1u:Stmt:=top 90
noncomputable abbrev z1V:Stmt:=top 91
noncomputable abbrev z7f:Stmt:=top 92
noncomputable abbrev z4E:Stmt:=top 95
noncomputable abbrev zcI:Stmt:=top 26
noncomputable abbrev z6C:Stmt:=top 32
noncomputable abbrev z7i:Stmt:=top 60
noncomputable abbrev z8W:Stmt:=top 67
noncomputable abbrev z2J:Stmt:=top 85
noncomputable abbrev z4W:Stmt:=top 93
noncomputable abbrev jE:Stmt:=top 97
noncomputable abbrev z6d:Stmt:=top 27
noncomputable abbrev z3c:Stmt:=top 33
noncomputable abbrev qG:Stmt:=top 98
noncomputable abbrev zbl:Stmt:=top 28
noncomputable abbrev z4A:Stmt:=top 30
noncomputable abbrev z2Z:Stmt:=top 34
noncomputable abbrev z3E:Stmt:=top 35
noncomputable abbrev qL:Stmt:=top 56
noncomputable abbrev z3h:Stmt:=top 68
noncomputable abbrev z1S:Stmt:=top 36
noncomputable abbrev jr:Stmt:=top 40
noncomputable abbrev z5a:Stmt:=top 57
noncomputable abbrev zh2:Stmt:=top 58
noncomputable abbrev z3e:Stmt:=top 59
noncomputable abbrev zmg:Stmt:=top 62
noncomputable abbrev z4F:Stmt:=top 63
noncomputable abbrev z1R:Stmt:=top 64
noncomputable abbrev z1I:Stmt:=top 65
noncomputable abbrev z3D:Stmt:=top 69
noncomputable abbrev z8P:Stmt:=top 70
noncomputable abbrev z9a:Stmt:=top 71
noncomputable abbrev z4t:Stmt:=top 96
noncomputable abbrev z8F:Stmt:=top 99
noncomputable def zf5:mX!:=[("next",m2!),("least",m3!),(jd!,m4!),(gi!,m5!)]
noncomputable def askQ:Ask:=⟨[Z! "is_whole" z7w, Z! "has_size" z6J, Z! "common_of_two" z0w, Z! "together" z6b, Z! "like_places" z2d, Z! "columns_of" z38, Z! "without" z9i, Z! "sign_at" z9g, Z! "greatest_and_others" uu, Z! "least_place" z23, Z! "all_but" z9r, Z! "is_rule" z8T, Z! "moved" zf2, Z! "_law_cell_at" z0V, Z! "_law_pot" z7V, Z! "_law_take" z5c, Z! "_law_rules" z2F, Z! "_law_step" z4s, Z! "_law_ended" z2C, Z! "_law_plain" z3u, Z! "_law_led" z79, Z! "_law_dot" z6G, Z! "_law_whole" z3z, Z! "_law_gcd" z69, Z! "_law_kind_of" z0T, Z! "are_wholes" z2B, Z! "lines_times" z1Y, Z! "number_of" z4N, Z! m2! z98, Z! m3! z6k, Z! m4! zbs, Z! m5! z9p, Z! "want_rule" z4H, Z! "_law_lot" z7q, Z! "_law_run" z6u, Z! "_law_product" z0Y, Z! "_law_back" z5b, Z! "_law_are_whole" kN, Z! "_law_no_rule" z1u, Z! "_law_is_lot" z1V, Z! "_law_odd" z7f, Z! "_law_same" z4E, Z! "is_lot" zcI, Z! "is_table" z6C, Z! "division" z7i, Z! "come_to" z8W, Z! "_law_lines" z2J, Z! "_law_bent" z4W, Z! "_law_is_showing" jE, Z! "want_lot" z6d, Z! "want_table" z3c, Z! "_law_bent_showing" qG, Z! "common" zbl, Z! "has_ended" z4A, Z! "multiplied" z2Z, Z! "one_number" z3E, Z! "want_rule_and_lot" qL, Z! m6! z3h, Z! "turned_back" z1S, Z! "growing_products" jr, Z! "want_step" z5a, Z! "step" zh2, Z! "step_table" z3e, Z! "run" zmg, Z! "tables_of" z4F, Z! "products_of" z1R, Z! "whole_table" z1I, Z! "lines_back" z3D, Z! "weights" z8P, Z! m7! z9a, Z! "_law_told" z4t, Z! "law" z8F], [o! iy!,o! "abs",o! jd!,o! fS!,o! gH!,o! et!,o! gI!,o! "len",o! ef!,o! nH!,o! nI!,o! ft!,o! lf!,o! gj!,o! "sum",o! dr!,o! iA!], [(o! "LEAST_SIZE",j! 2),(o! "MOST_SIZE",j! 4)], [Z! "RULES" zf5], [], [o! lg!,o! nJ!,o! nK!,o! nL!,o! nM!,o! hc!,o! nN!,o! nO!,o! nP!,o! hd!,o! nQ!,o! nR!,o! je!,o! nS!,o! nT!,o! nU!,o! jf!,o! nV!], [((o! hc!,o! hc!),d!),iu! je!,iu! nT!,iu! nU!,iu! jf!,iu! nS!,iu! hd!,iu! nJ!,iu! nK!,iu! nO!,iu! nL!,iu! nQ!,iu! nN!,iu! nV!,iu! nR!,iu! nM!,iu! nP!,io! hc!,io! je!,io! nT!,io! nU!,io! jf!,io! nS!,((o! hd!,o! hd!),d!),io! nJ!,io! nK!,io! nO!,io! nL!,io! nQ!,io! nN!,io! nV!,io! nR!,io! nM!,io! nP!,ik! hc!,((o! je!,o! je!),d!),ik! nT!,ik! nU!,ik! jf!,ik! nS!,ik! hd!,ik! nJ!,ik! nK!,ik! nO!,ik! nL!,ik! nQ!,ik! nN!,ik! nV!,ik! nR!,ik! nM!,ik! nP!,il! hc!,il! je!,il! nT!,il! nU!,((o! jf!,o! jf!),d!),il! nS!,il! hd!,il! nJ!,il! nK!,il! nO!,il! nL!,il! nQ!,il! nN!,il! nV!,il! nR!,il! nM!,il! nP!,((o! hc!,o! lg!),d!),((o! hd!,o! lg!),d!),((o! je!,o! lg!),d!),((o! jf!,o! lg!),d!)]⟩
noncomputable def qv:Program:=W.view p6! [99]
noncomputable def looseQ:ao!:=[o! lg!,o! hc!,o! je!,o! nT!,o! nU!,o! jf!,o! nS!,o! hd!,o! nJ!,o! nK!,o! nO!,o! nL!,o! nQ!,o! nN!,o! nV!,o! nR!,o! nM!,o! nP!,o! "LEAST_SIZE",o! "MOST_SIZE",o! "is_whole",o! "are_wholes",o! "has_size",o! "is_lot",o! "want_lot",o! "common",o! "common_of_two",o! "has_ended",o! "is_table",o! "want_table",o! "multiplied",o! "one_number",o! "turned_back",o! "together",o! "lines_times",o! "like_places",o! "growing_products",o! "columns_of",o! "number_of",o! "without",o! "sign_at",o! "greatest_and_others",o! "least_place",o! "all_but",o! m2!,o! m3!,o! m4!,o! m5!,o! "RULES",o! "is_rule",o! "want_rule",o! "want_rule_and_lot",o! "want_step",o! "step",o! "step_table",o! "division",o! "moved",o! "run",o! "tables_of",o! "products_of",o! "whole_table",o! "come_to",o! m6!,o! "lines_back",o! "weights",o! m7!,o! "_law_cell_at",o! "_law_pot",o! "_law_take",o! "_law_lot",o! "_law_rules",o! "_law_step",o! "_law_ended",o! "_law_run",o! "_law_plain",o! "_law_led",o! "_law_product",o! "_law_back",o! "_law_lines",o! "_law_dot",o! "_law_whole",o! "_law_are_whole",o! "_law_gcd",o! "_law_no_rule",o! "_law_is_lot",o! "_law_odd",o! "_law_bent",o! "_law_kind_of",o! "_law_same",o! "_law_told",o! "_law_is_showing",o! "_law_bent_showing"]
noncomputable def lvQ:dL! W.WData:=[]
noncomputable def xtQ:eG! nW!:=λs=>W.xlAt qv lvQ s&&W.recOk (W.RowW.records (W.OpenRow.toRowW (W.OpenLaw.row PySem.Challenge.rw_drawndown_k23_showings))) s
theorem zv1:∀w:World,W.absHeap (zpw sd!) 11 (j5!).life=j5!:=by
 intro w;kernel_rfl
theorem bsz:∀w:World,((j5!).isNs l6!&&(jB!:rZ!).size==0,eg! j5!,(j5!).nsMap l6! "__annotations__")=(d!,11,(a0! 6)):=by
 intro w;kernel_rfl
noncomputable def zjh(w v:World)(os:OsState):bn! p5!:=z7B se! p6! v 11 (a0! 6) 12154 ⟨zpw sd!,11,(j5!).life,jB!,p7!,p8!,os⟩ (W.topStub p6!)
noncomputable def zkV(w:World)(s:W.SharedT):Bool:=W.staticsOk (sO! PySem.Challenge.pw_drawndown_k23_showings.main.body) j5! s.abs.heap&&W.namesBound p6! s.abs.heap&&W.gensDone iz!&&W.laidKept j5! s.abs.heap
noncomputable def seenQ(s:Shared):=W.openSeen qv looseQ (sO! PySem.Challenge.pw_drawndown_k23_showings.main.body) xtQ d! s
theorem zvl{α β γ δ:b4!}(x:α×β×γ×δ):(x.1,x.2.1,x.2.2.1,x.2.2.2)=x:=rfl
noncomputable def zoy(s:Shared):=((m8! s).1,(m8! s).2.1,(m8! s).2.2.1,(m8! s).2.2.2)
noncomputable def zoN:=((pR! qv).1,(pR! qv).2.1,(pR! qv).2.2.1,(pR! qv).2.2.2)
theorem zeX(s:Shared):zoy s=m8! s:=zvl _
theorem zff:zoN=pR! qv:=zvl _
set_option maxRecDepth 1000000 in
theorem zaL:oC! (jO! (zjh w (jx! t!) os) (zkV w s,zq2 48 he! iz!)) (d!,zpH 48 he!):=by
 intro w os;kernel_rfl
set_option maxRecDepth 1000000 in
theorem zaD:oC! (jO! (zjh w (jx! t!) os) (zoY 48 he! iz!)) (zp2 48 he! (jx! t!)):=by
 intro w os;kernel_rfl
theorem zaV(w:World)(os:OsState):jO! (zjh w (jx! t!) os) (zkV w s,obsS he! iz!)=b! (d!,valS he! (jx! t!)):=zeV (zaL w os) (zaD w os)
set_option maxRecDepth 1000000 in
theorem zaX:oC! (jO! (zjh w (jx! t!) os) (zoy iz!)) zoN:=by
 intro w os;kernel_rfl
theorem zbL(w:World)(os:OsState):jO! (zjh w (jx! t!) os) (m8! iz!)=b! (pR! qv):=by
 have h:=zaX w os;simp only[zeX,zff]at h;exact h
set_option maxRecDepth 1000000 in
theorem zbM:oC! (jO! (zjh w (jx! d!) os) (zkV w s,zq2 48 he! iz!)) (d!,zpH 48 he!):=by
 intro w os;kernel_rfl
set_option maxRecDepth 1000000 in
theorem zcH:oC! (jO! (zjh w (jx! d!) os) (zoY 48 he! iz!)) (zp2 48 he! (jx! d!)):=by
 intro w os;kernel_rfl
theorem zdu(w:World)(os:OsState):jO! (zjh w (jx! d!) os) (zkV w s,obsS he! iz!)=b! (d!,valS he! (jx! d!)):=zeV (zbM w os) (zcH w os)
set_option maxRecDepth 1000000 in
theorem zdY:oC! (jO! (zjh w (jx! d!) os) (zoy iz!)) zoN:=by
 intro w os;kernel_rfl
theorem zdL(w:World)(os:OsState):jO! (zjh w (jx! d!) os) (m8! iz!)=b! (pR! qv):=by
 have h:=zdY w os;simp only[zeX,zff]at h;exact h
set_option maxRecDepth 1000000 in
theorem said_:W.OpenLaw.wellSaid PySem.Challenge.rw_drawndown_k23_showings=d!:=by kernel_rfl
end aW
namespace L2
noncomputable abbrev Key:=Sum Int Str
noncomputable def zdJ:Key->eG! dX!
 | .inl k,v=>Value.isInt k v | .inr x,v=>Value.isStrOf x v
noncomputable def zwp(w:World):Key->Int
 | .inl k=>hashInt k | .inr x=>hashStr w x
theorem xf:∀{k:Key}{v:Value},zdJ k v=d!->(∃i t,k=pc! i/\v=Value.int i t)\/(∃x t,k=Sum.inr x/\v=Value.str x t)
 | .inl i,v,h=>by
  obtain⟨t,e⟩:=Value.isInt_shape h;exact z! (fH! i t e) | .inr x,v,h=>by
  obtain⟨t,e⟩:=Value.isStrOf_shape h;exact T! (fH! x t e)
theorem z7x(x:Str)(t:Tok):zdJ (T! x) (.str x t)=d!:=by simp[zdJ,Value.isStrOf]
theorem zrk(a b:Int):a5! ((pc! a:Key)=pc! b)=(a==b):=by
 by_cases e:a=b;·subst e;simp
 ·rw[_ae (λq=>e (Sum.inl.inj q))];exact (beq_eq_false_iff_ne.mpr e).symm
theorem zrq(a b:Str):a5! ((Sum.inr a:Key)=Sum.inr b)=fh! a b:=by
 by_cases e:a=b;·simp
 ·rw[_ae (λq=>e (Sum.inr.inj q)),_ae e]
theorem zpI(a:Int)(b:Str):a5! ((pc! a:Key)=Sum.inr b)=t!:=_ae (λq=>nomatch q)
theorem zpO(a:Str)(b:Int):a5! ((Sum.inr a:Key)=pc! b)=t!:=_ae (λq=>nomatch q)
noncomputable def wo(prog:Program)(w:World):PySem.KeyKind m9! w Key where
 is:=zdJ;hash:=zwp w;inj:=λv a b ha hb=>by
  rcases xf ha with⟨i,t,rfl,rfl⟩ | ⟨x,t,rfl,rfl⟩
  ·rcases xf hb with⟨j,u,rfl,e⟩ | ⟨y,u,rfl,e⟩;·injection e with e1 _;rw[e1]
   ·exact nomatch e
  ·rcases xf hb with⟨j,u,rfl,e⟩ | ⟨y,u,rfl,e⟩;·exact nomatch e
   ·injection e with e1 _;rw[e1]
 byValue:=λk v h=>by rcases xf h with⟨i,t,rfl,rfl⟩ | ⟨x,t,rfl,rfl⟩<;>rfl
 pyHash:=λhv h=>by
  rcases xf hv with⟨i,t,rfl,rfl⟩ | ⟨x,t,rfl,rfl⟩;·exact wpAny_pyHash_int h
  ·exact wpAny_pyHash_str h
 eqBool:=λhu hv h=>by
  rcases xf hu with⟨i,t,rfl,rfl⟩ | ⟨x,t,rfl,rfl⟩
  ·rcases xf hv with⟨j,u,rfl,rfl⟩ | ⟨y,u,rfl,rfl⟩;·rw[zrk]at h;exact _b8 h
   ·rw[zpI]at h;exact SeqAt.EqAt.int_str i t y u _ _ _ _ h
  ·rcases xf hv with⟨j,u,rfl,rfl⟩ | ⟨y,u,rfl,rfl⟩;·rw[zpO]at h;exact SeqAt.EqAt.str_int x t j u _ _ _ _ h
   ·rw[zrq]at h;exact wpAny_eqBool_str h
 «strs» := λk x t v h=>by
  rcases xf h with⟨i,u,rfl,e⟩ | ⟨y,u,rfl,e⟩;·exact nomatch e
  ·injection e with e1 _;subst e1;cases v<;>rfl
theorem z8C(prog:Program)(w:World)(k:Key)(v:Value):(wo m9! w).is k v=zdJ k v:=rfl
theorem zdi(prog:Program)(w:World)(x:Str)(t:Tok):(wo m9! w).is (T! x) (.str x t)=d!:=z7x x t
inductive V where | non | bl (b:Bool) | int (i:Int) | str (x:Str) | byt (b:Array UInt8) | flt (b:UInt64) | ref (a:Addr) | ty (n:String) deriving DecidableEq
def wV:V->dX!->k!
 | .non,u=>u=Value.none | .bl b,u=>u=Value.bool b | .int i,u=>∃t,u=Value.int i t | .str x,u=>∃t,u=Value.str x t | .byt b,u=>∃t,u=Value.bytes b t | .flt b,u=>∃t,u=Value.float b t | .ref a,u=>u=lh! a | .ty n,u=>u=Value.type n
abbrev xw:aM!->c3!->k!:=Paired wV
theorem xw.length(r:i5!):w!=na!:=Paired.length r
theorem xw.get:∀{xs:List V}{us:List Value}{i:Nat}{x:V},i5!->am! xs x->∃u,am! us u/\wV x u
 | _,_,_,_,.nil,e=>by cases e | _,_,0,_,.cons r _,e=>by simp at e;subst e;exact aB! _ r | _,_,i+1,x,.cons _ t,e=>by
  obtain⟨u,h1,h2⟩:=xw.get t (by exact e);exact⟨u,by exact h1,h2⟩
theorem xw.set(r:wV x u):∀{xs:List V}{us:List Value}(i:Nat),i5!->xw (iB! i x) (us.set i u)
 | _,_,_,.nil=>cB! | _,_,0,.cons _ t=>eI! r t | _,_,i+1,.cons q t=>eI! q (xw.set r i t)
theorem xw.append:∀{xs ys:List V}{us ws:List Value},i5!->xw ys ws->xw (xs++ys) (us++ws)
 | _,_,_,_,.nil,s=>s | _,_,_,_,.cons r t,s=>eI! r (xw.append t s)
theorem xw.take:∀{xs:List V}{us:List Value}(n:Nat),i5!->xw (nb! n) (us.take n)
 | _,_,0,_=>cB! | _,_,_+1,.nil=>cB! | _,_,n+1,.cons r t=>eI! r (xw.take n t)
theorem xw.drop:∀{xs:List V}{us:List Value}(n:Nat),i5!->xw (li! n) (us.drop n)
 | _,_,0,r=>r | _,_,_+1,.nil=>cB! | _,_,n+1,.cons _ t=>xw.drop n t
def zuM:bn! V->aL!->k!
 | some v,some u=>wV v u | none,none=>True | _,_=>False
def KV: gr! κ V->gr! κ dX!->k!:=Paired λ(p:κ×V)(q:κ×Value)=>p.1=q.1/\wV p.2 q.2
noncomputable def kV:Key->V
 | .inl i=>Y! | .inr x=>bY!
inductive HO where | lst (xs:aM!) | tup (xs:aM!) | dK (ah:gr! Key V) | dT (ah:gr! (ee! Key) V) | set (S:eG! Int)(n:Nat) | ins (C dx:Addr)(fs:dL! V) | own (x:Addr) | xd (fs:dL! V) | met (f x:Addr) | rng (lo hi:Int) | frz (o:Obj)(u:HO) | tbl (ps:cD!) | ext (φ:Heap->k!)
abbrev Hp:=l7!->bn! HO
noncomputable def upd(H:Hp)(a:Addr)(o:HO):Hp:=λb=>aj! b a (b! o) (H b)
theorem yB: upd H a o a=b! o:=by unfold upd;rw[gx!]
theorem zM(h:b≠a):upd H a o b=H b:=by unfold upd;rw[_o h]
theorem zn9: upd (hb! o) a u=hb! u:=by funext b;unfold upd;split<;>rfl
theorem xz{H:Hp} (h:cq! o)(h':e7!):a≠b:=by intro e;subst e;rw[h]at h';cases h'
def zgo(h:Heap)(a:Addr)(items:cD!):k!:=∃o,cJ! a/\gk!=dK!/\o.dict=a!/\∃n,h5!=.seq hf! n
theorem zgo.tup{h:Heap}{a:Addr}{items:cD!}(x:zgo h a hf!):IsTup h a hf!:=let ⟨o,e,c,_,r⟩:=x;⟨o,e,c,r⟩
theorem zgo.new(h:Heap)(items:cD!):zgo (h.push {cls:=dK!,data:=.seq hf!}) jg! hf!:=⟨_,g9!,rfl,rfl,_,rfl⟩
theorem zgo.lt(x:zgo h a hf!):a<jg!:=x.tup.lt
section
variable (P:Program)(w:World)
def kF(H:Hp)(h:Heap)(a:Addr):HO->k!
 | .lst xs=>w!<=aS!/\∃(af:List Value)(n:Nat),xw xs af/\eR! a ({cls:=dd!,data:=oJ! n}) | .tup xs=>w!<=aS!/\∃af:List Value,xw xs af/\zgo h a fu! | .dK ah=>ah.length<=aS!/\(a==sysModules)=t!/\∃vs,KV ah vs/\h.DictOf (wo P w) a vs | .dT ah=>ah.length<=aS!/\(a==sysModules)=t!/\∃xs:List (List Key×Addr×Value), p9! (λ(p:List Key×V)(q:List Key×Addr×Value)=>p.1=q.1/\H q.2.1=b! (n! (p.1.map kV))/\wV p.2 q.2.2) ah xs/\ ∃o es ep,cJ! a/\o.ExactDict/\h5!=.dict es ep/\es.toList=nX! (entryOfKey (tupleKind (wo P w)))/\(nX! (·.1)).Nodup | .set S n=>h.SetOf (intKind P w) a S n | .ins C dx fs=>H dx=b! (.own a)/\dn! fs.length/\dx≠a/\eR! a (W.instObj C dx)/\ ∃mA,h.Ns1 dx mA/\(∀f,zuM (fs.lookup f) (mA f))/\PySem.Within mA (fs.map (·.1)) | .own _=>∃o,cJ! a | .xd fs=>∃mA,h.Ns1 a mA/\∀f,zuM (fs.lookup f) (mA f) | .rng lo hi=>∃t u v,eR! a ({cls:=lP!,data:=eJ! #[bS! lo,bx! hi u,bx! 1 v]}) | .frz o u=>cJ! a/\kF H h a u | .tbl ps=>eR! a ({cls:=aa!,data:=eJ! ps}) | .met f x=>eR! a (W.methodObj (u! f) (u! x)) | .ext φ=>φ h/\(∃o,cJ! a)/\∀h1 h2:Heap,φ h1->(∀o,h1.get? a=b! o->h2.get? a=b! o)->φ h2
def HOk(H:Hp)(h:Heap):k!:=∀a o,cq! o->kF P w H h a o
end
section
variable {P:Program}{w:World}{H H':Hp}{h h':Heap}{a:Addr}{o:HO}
theorem kF.lt(x:kF P w H h a o):a<jg!:=by cases o with
 | lst xs=>obtain⟨_,_,_,_,e⟩:=x;exact c8! | tup xs=>obtain⟨_,_,_,p⟩:=x;exact p.lt | dK ah=>obtain⟨_,_,_,_,o,_,_,e,_⟩:=x;exact c8! | dT ah=>obtain⟨_,_,_,_,o,_,_,e,_⟩:=x;exact c8! | set S n=>obtain⟨o,_,_,_,e,_⟩:=x;exact c8! | ins C dx fs=>obtain⟨_,_,_,e,_⟩:=x;exact c8! | own y=>obtain⟨_,e⟩:=x;exact c8! | xd fs=>obtain⟨_,⟨_,_,_,e,_⟩,_⟩:=x;exact c8! | rng lo hi=>obtain⟨_,_,_,e⟩:=x;exact c8! | frz ob u=>obtain⟨e,_⟩:=x;exact c8! | tbl ps=>exact _q (x) | met f y=>exact _q (x) | ext φ=>obtain⟨_,⟨_,e⟩,_⟩:=x;exact c8!
theorem Paired.mapP: ∀{l₁:List α}{l₂:List β},p9! F l₁ l₂->(∀a b,F a b->G a b)->p9! G l₁ l₂
 | _,_,.nil,_=>cB! | _,_,.cons r t,f=>eI! (f _ _ r) (Paired.mapP t f)
theorem kF.stay(x:kF P w H h a o)(k:∀b u,(b=a\/cY! (.own a))->eR! b u->gp! b u) (ho:∀b,cY! (.own a)->H' b=b! (.own a))(ht:∀b xs,cY! ap!->H' b=b! ap!):kF P w H' h' a o:=by induction o with
 | lst xs=>obtain⟨z,af,n,r,e⟩:=x;exact⟨z,af,n,r,k _ _ c4! e⟩ | tup xs=>obtain⟨z,af,r,ob,e,c⟩:=x;exact⟨z,af,r,ob,k _ _ c4! e,c⟩ | dK ah=>obtain⟨z,y,vs,r,ob,es,ep,e,c⟩:=x;exact⟨z,y,vs,r,ob,es,ep,k _ _ c4! e,c⟩ | dT ah=>
  obtain⟨z,y,xs,r,ob,es,ep,e,c⟩:=x;exact⟨z,y,xs,Paired.mapP r λp q z=>⟨z.1,ht _ _ z.2.1,z.2.2⟩,ob,es,ep,k _ _ c4! e,c⟩ | set S n=>obtain⟨ob,es,ep,t,e,c⟩:=x;exact⟨ob,es,ep,t,k _ _ c4! e,c⟩ | ins C dx fs=>
  obtain⟨d,z,ne,e,mA,⟨od,es,ep,e2,c⟩,r⟩:=x;exact⟨ho _ d,z,ne,k _ _ c4! e,mA,⟨od,es,ep,k _ _ (T! d) e2,c⟩,r⟩ | own y=>obtain⟨ob,e⟩:=x;exact⟨ob,k _ _ c4! e⟩ | xd fs=>obtain⟨mA,⟨od,es,ep,e,c⟩,r⟩:=x;exact aN! mA ⟨od,es,ep,k _ _ c4! e,c⟩ r | rng lo hi=>obtain⟨t,u,v,e⟩:=x;exact⟨t,u,v,k _ _ c4! e⟩ | frz ob u ih=>obtain⟨e,q⟩:=x;exact⟨k _ _ c4! e,ih q⟩ | tbl ps=> exact k a _ c4! x | met f y=> exact k a _ c4! x | ext φ=>obtain⟨p,⟨o,e⟩,st⟩:=x;exact⟨st _ _ p λo q=>k _ _ c4! q,⟨o,k _ _ c4! e⟩,st⟩
theorem HOk.lt(x:HOk P w H h)(e:cq! o):a<jg!:=(x a o e).lt
theorem HOk.fresh(x:HOk P w H h)(e:jg!<=a):H a=a!:=by cases q:H a with
 | none=>rfl | some u=>exact kS! (_j (x.lt q) e) _
theorem HOk.kept(x:HOk P w H h)(k:∀b u,eR! b u->gp! b u):HOk P w H h':=λa o e=> (x a o e).stay (λb u _ q=>k b u q) (λ_ q=>q) λ_ _ q=>q
theorem HOk.laid(x:HOk P w H h)(k:∀b u,eR! b u->gp! b u)(hp:jg!<=a)(new:kF P w (hb! o) h' a o):HOk P w (hb! o) h':=λb u e=>by
 have hn:=x.fresh hp;by_cases hb:b=a;·subst hb;rw[yB]at e;cases e;exact new
 ·rw[zM hb]at e;exact (x b u e).stay (λc v _ q=>k c v q) (λc q=>by rw[zM (xz q hn)];exact q) λc xs q=>by rw[zM (xz q hn)];exact q
end
def Rd(H:Hp)(a:Addr)(u:HO):k!:=cq! u\/∃o,cq! (d7! u)
theorem Rd.ok(r:Rd H a u)(x:HOk P w H h):kF P w H h a u:=by
 rcases r with r | ⟨o,r⟩;·exact x a u r
 ·obtain⟨_,q⟩:=x a _ r;exact q
def Mut:bn! HO->k!
 | some (.lst _)=>True | some (.dK _)=>True | some (.dT _)=>True | some (.set _ _)=>True | some (.ins _ _ _)=>True | some (.ext _)=>True | _=>False
section
variable {P:Program}{w:World}{H:Hp}{h h':Heap}{x e:Addr}{o':HO}
theorem HOk.write(ok:HOk P w H h)(mu:Mut (H x))(he:e=x\/H e=b! (.own x))(k:∀b u,b≠e->eR! b u->gp! b u)(dU:∃u,gp! e u) (new:kF P w (hS! x o') h' x o'):HOk P w (hS! x o') h':=λb u q=>by
 have eE:∀c y,H c=b! (.own y)->c≠x:=λc y r z=>by subst z;rw[r]at mu;exact mu
 by_cases hb:b=x;·subst hb;rw[yB]at q;cases q;exact new
 ·rw[zM hb]at q;by_cases dE:b=e
  ·have q':cY! (.own x):=by
    rcases he with z | z;·exact cN! (dE.trans z) hb
    ·rw[dE];exact z
   rw[q]at q';cases q';obtain⟨v,hv⟩:=dU;exact⟨v,by rw[dE];exact hv⟩
  ·refine (ok b u q).stay (λc v hc r=>k c v ?_ r) (λc r=>by rw[zM (eE c b r)];exact r) λc xs r=>by rw[zM ((λc xs r z=>by subst z;rw[r]at mu;exact mu) c xs r)];exact r
   rcases hc with rfl | hc;·exact dE
   ·rintro rfl;rcases he with z | z;·exact eE c b hc z
    ·rw[hc]at z;cases z;exact hb rfl
end
structure Un(fs ex:bi!)(H H':Hp)(h h':Heap):k! where
 keep:bD! (cJ! b->e7!->b∉fs->b∉ex->dC! b)
 slot:bD! (cJ! b->e7!->b∈fs->b∉ex->∃sl,gp! b ({o with slots:=sl}))
 free:bD! (cJ! b->e7!->b∉ex->ga! b)
 there:bD! (cJ! b->b∉ex->∃o',gp! b o')
 tups:∀b xs,cY! ap!->H' b=b! ap!
 frzs:∀b o u,cY! (d7! u)->H' b=b! (d7! u)
 tbls:∀b ps,cY! (.tbl ps)->∃more,H' b=b! (.tbl (ps++more))
section
variable {fs dW ex pN:bi!}{H H1 H2:Hp}{h h1 h2 h':Heap}{a x e:Addr}{o:HO}
theorem Un.any(u:Un fs ex H H1 h h1) (q:eR! b ob)(n:e7!)(hx:b∉ex):∃sl,h1.get? b=b! ({ob with slots:=sl}):=by
 by_cases hb:b∈fs;·exact u.slot b ob q n hb hx
 ·exact⟨ob.slots,u.keep b ob q n hb hx⟩
theorem Un.kept(k:∀b u,eR! b u->gp! b u):Un fs ex H H h h':= ⟨λb ob q _ _ _=>k b ob q,λb ob q _ _ _=>⟨ob.slots,k b ob q⟩,λ_ _ _ n _=>n,λb ob q _=>⟨ob,k b ob q⟩,λ_ _ q=>q,λ_ _ _ q=>q,λ_ ps q=>⟨#[],by rw[q];rfl⟩⟩
theorem Un.refl:Un fs ex H H h h:=Un.kept λ_ _ q=>q
theorem Un.laid(k:∀b u,eR! b u->gp! b u)(hp:jg!<=a)(hn:H a=a!):Un fs ex H (hb! o) h h' where
 keep:=λb u q _ _ _=>k b u q;slot:=λb u q _ _ _=>⟨u.slots,k b u q⟩;free:=λb u q n _=>by rw[zM (_D (_j (_q q) hp))];exact n
 there:=λb u q _=>⟨u,k b u q⟩;tups:=λb xs q=>by rw[zM (xz q hn)];exact q
 frzs:=λb u xs q=>by rw[zM (xz q hn)];exact q
 tbls:=λb ps q=>⟨#[],by rw[zM (xz q hn),q];rfl⟩
theorem Un.write(mu:Mut (H x))(he:e=x\/H e=b! (.own x))(k:∀b u,b≠e->eR! b u->gp! b u)(dU:∃u,gp! e u):Un fs ex H (hS! x o) h h':=by
 have hx:∀b,e7!->b≠x:=λb n z=>by subst z;rw[n]at mu;exact mu
 have hb:∀b,e7!->b≠e:=λb n z=>by
  subst z;rcases he with r | r;·exact hx b n r
  ·rw[n]at r;cases r
 have hm:∀b u,cY! u->¬ Mut (b! u)->b≠x:=λb u q nm z=>by subst z;rw[q]at mu;exact nm mu
 refine⟨λb u q n _ _=>k b u (hb b n) q,λb u q n _ _=>⟨u.slots,k b u (hb b n) q⟩,λb u q n _=>by rw[zM (hx b n)];exact n,λb u q _=>?_, λb xs q=>by rw[zM (hm b _ q λz=>z)];exact q,λb u xs q=>by rw[zM (hm b _ q λz=>z)];exact q,λb ps q=>⟨#[],by rw[zM (hm b _ q λz=>z),q];rfl⟩⟩;by_cases dE:b=e;·subst dE;exact dU
 ·exact⟨u,k b u dE q⟩
end
noncomputable def trk(h:Heap)(H:Hp):bi!:=lj! (iC! jg!) (λa=>gl! (H a))
noncomputable def zp1(h:Heap)(H:Hp):Heap:=W.hideAll h (trk h H)
theorem zgy(h:Heap)(H:Hp):eg! (zp1 h H)=jg!:=W.hideAll_size _ _
theorem zkm(e:cJ! b)(n:e7!):e5! (zp1 h H) b o:= W.hideAll_get _ e λhm=>by
  have q := (_bq.mp hm).2;rw[n]at q;cases q
theorem zoT(e:e5! (zp1 h H) b o):cJ! b/\e7!:=by
 have e' := W.of_hideAll (trk h H) e;refine aw! e' ?_;cases q:H b with
 | none=>rfl | some x=>
  have z:(zp1 h H).get? b=a!:=W.hideAll_none (trk h H) (_bq.mpr ⟨_aL.mpr (_q e'),by simp[q]⟩);rw[z]at e;cases e
noncomputable def zom(g h:Heap)(L:Addr):dh!:=rX! jg! (λa=>al! (a=L\/gl! (g.get? a)=d!) a! ((p4! a).map λo=>(a,o)))
noncomputable def kH(g h:Heap)(L d:Addr):dh!:=mO! (zom g h L) (ci! p.1 d)
structure Mod(K:W.Frag)(mg:Str->aL!)(base:Heap):k! where
 kin:K.In R!
 glob:ss! mg
 blt:∃mb,base.Ns builtinsNs mb/\∀x:Str,lQ! x->mb x=lk! x
 nolimit:base.NoLimit
structure Cx where
 prog:Program
 w:World
 K:W.Frag
 mg:Str->aL!
 base:Heap
 A:Around
 N:ao!
 s₀:Shared
 H₀:Hp
 env:Env
 outer:mL!
 stack:mL!
 ex:bi!
 fn:eG! Str
 calm:Bool
 pn:dh!
 xe:bX!
noncomputable def frs(l:mL!):bi!:=l.filterMap (·.frame)
noncomputable abbrev Cx.fs(X:Cx):bi!:=frs kz!
def Vis(sc:Scope)(x:Str):k!:=oF!=b! pd!\/oF!=dz!\/oF!=b! bV!
def Loc(sc:Scope)(x:Str):k!:=oF!=b! pd!\/oF!=dz!
def zvT(env:Env)(h:Heap)(m:Str->aL!)(x:Str)(u:Value):k!:= (sJ! x=b! pd!/\m x=b! u)\/((sJ! x=dz!\/sJ! x=b! bV!)/\∃c,env.cells.lookup x=b! c/\h.IsCell c (b! u))
structure Cx.Ok(X:Cx):k! where
 mod:Mod X.K fw! fa!
 kind:X.env.scope.kind=sc!
 glob:X.env.globals=l6!
 blt:X.env.builtins=builtinsNs
 above:X.s₀.heap.objs.size<=jQ!
 inj:∀x y c,gR! x c->gR! y c->x=y
 has:∀x,(fT! x=dz!\/fT! x=b! bV!)->∃c,gR! x c
 cab:∀x c,f3! x->gR! x c->X.s₀.heap.objs.size<=c
 hd:bW!->X.A.handled=a!
 frames:X.A.frames=b! jh!
 stk:jh!=kz!\/(jh!=aT!::kz!/\X.env.frame=b! jQ!)
 exf:∀b∈X.ex,iN! b/\∀x c,gR! x c->c≠b
 bs:bD! (r1!=b! o->rQ!=b! o/\X.H₀ b=a!)
 bsz:X.base.objs.size<=X.s₀.heap.objs.size
 noex:bD! (r1!=b! o->b∉ll!)
 exfs:∀b∈X.ex,b∉ji!
 funs:X.s₀.heap.FunFrames fa! kz!
 frf:∀b∈X.fs,X.H₀ b=a!
structure Inv(X:Cx)(ae:dh!)(O:mp! V)(H:Hp)(s:Shared):k! where
 ok:X.Ok
 os:s.os=X.s₀.os
 bare:rG! s.gens
 base:Un ji! ll! X.H₀ H X.s₀.heap I!
 loc:∃m,s.heap.Ns jQ! m/\∀(i:Nat)(x:Str)(v:V),f5! x->am! O bB!->sA! x->∃u,wV v u/\zvT aT! I! m x u
 cell:∀x c,gR! x c->∃v,s.heap.IsCell c v
 free:H jQ!=a!
 freeC:∀x c,gR! x c->H c=a!
 pin:∀p∈iD!++ae,fY! p.1 p.2/\H p.1=a!/\iN! p.1/\p.1∉ji!/\∀v,p.2.data≠.cell v
 hok:HOk aO! X.w H I!
 len:O.length=X.N.length
section
variable {X:Cx}{ae:dh!}{O:mp! V}{H H':Hp}{s:Shared}{h':Heap}
theorem Cx.Ok.nofr(ok:X.Ok) (e:r1!=b! o):b∉ji!:=λhb=>by
 have:=(ok.funs.mem hb).1;rw[e]at this;cases this
theorem Inv.bs(I:L!):bD! (r1!=b! o->dp! b/\e7!):=gJ! ⟨qa! b o (I.ok.bs b o e).1 (I.ok.bs b o e).2 (I.ok.nofr e) (I.ok.noex b o e),rF! o (I.ok.bs b o e).1 (I.ok.bs b o e).2 (I.ok.noex b o e)⟩
theorem Inv.bk(I:L!):bD! (r1!=b! o->dp! b):=gJ! (I.bs b o e).1
theorem Inv.mod(I:L!):Mod X.K fw! fa!:=I.ok.mod
theorem Inv.kIn(I:L!):X.K.In I!:=I.ok.mod.kin.keeps I.bk
theorem Inv.fr(I:L!):∃m,Fr fa! jQ! I! m:= let ⟨m,hn,_⟩:=I.loc;⟨m,hn,I.bk,_Z I.ok.bsz nY!⟩
theorem Inv.lt(I:L!):jQ!<ar!:=let ⟨_,hn,_⟩:=I.loc;hn.lt
theorem Inv.sz(I:L!):X.s₀.heap.objs.size<=ar!:=_Z nY! (_bB I.lt)
theorem Inv.nofs(I:L!){a:Addr}(h:ar!<=a):a∉ji!:=λhb=>by
 obtain⟨_,o,ho,_⟩:=I.ok.funs.mem hb;exact kS! (_j (_q ho) (_Z I.sz h)) _
theorem Inv.cne(I:L!):∀x c,gR! x c->iN! c:=λx c e z=>by
 obtain⟨v,o,ho,hd⟩:=nE! x e;obtain⟨m,⟨o',es,ep,bY,gJ,_⟩,_⟩:=I.loc;rw[z,bY]at ho;cases ho;rw[gJ]at hd;cases hd
theorem Inv.funs(I:L!):s.heap.FunFrames fa! kz!:=(show ∀(l:List Env),(∀b∈frs l,b∈ji!)->X.s₀.heap.FunFrames fa! l->s.heap.FunFrames fa! l from by
  intro l;induction l with
  | nil=>intro _ _;trivial | cons env r ih=>
   intro hs hl;obtain⟨hk,⟨L,o,hf,hn,ho,hd⟩,hr⟩:=hl;have hL := hs L (by unfold frs;rw[_bF,hf];exact _al);obtain⟨sl,e⟩:=qb! L o ho (I.ok.frf L hL) hL (λz=>I.ok.exfs L z hL);exact⟨hk,⟨L,_,hf,hn,e,hd⟩,ih (cr! (hs b (by unfold frs;rw[_bF,hf];exact _H _ hb))) hr⟩) kz! (λ_ hb=>hb) I.ok.funs
theorem Inv.stack(I:L!):s.heap.FunFrames fa! jh!:=by
 rcases I.ok.stk with e | ⟨e,hf⟩;·rw[e];exact I.funs
 ·rw[e];obtain⟨m,hn,_⟩:=I.loc;exact .cons (by rw[I.ok.kind];decide) hf hn (Heap.get?_none_of_le (_Z I.ok.bsz nY!)) I.funs
theorem Inv.stkSub(I:L!):∀b∈frs jh!,b∈jQ!::ji!:=cr! (by
 rcases I.ok.stk with e | ⟨e,hf⟩;·rw[e]at hb;exact _H _ hb
 ·rw[e]at hb;unfold frs at hb;rw[_bF,hf]at hb;exact hb)
theorem Inv.stkFree(I:L!):∀b∈frs jh!,e7!:=cr! (by
 rcases dE! (I.stkSub b hb) with e | hb;·rw[e];exact I.free
 ·obtain⟨_,o,ho,_⟩:=I.ok.funs.mem hb;exact rF! o ho (I.ok.frf b hb) (λz=>I.ok.exfs b z hb))
theorem Inv.step{g':rZ!}{t':Nat}{d':Drawn}{ch:bi!}(I:L!) (cO:∀b∈ch,(b∈ll!\/X.s₀.heap.objs.size<=b)/\iN! b/\(∀x c,gR! x c->c≠b)/\∀p∈iD!++ae,p.1≠b) (keep:bD! (iN! b->b∉ji!->b∉ch->dp! b->e7!->dC! b)) (slot:bD! (iN! b->b∈ji!->b∉ch->dp! b->e7!->∃sl,gp! b ({o with slots:=sl})))(free:bD! (b∉ch->dp! b->e7!->ga! b)) (there:bD! (b∉ch->dp! b->∃o',gp! b o')) (tups:∀b xs,cY! ap!->H' b=b! ap!)(frzs:∀b o u,cY! (d7! u)->H' b=b! (d7! u))(tbls:∀b ps,cY! (.tbl ps)->∃more,H' b=b! (.tbl (ps++more))) (ns:∀m,s.heap.Ns jQ! m->h'.Ns jQ! m)(hok:HOk aO! X.w H' h')(hg:rG! g'): cQ! H' ({s with heap:=h',gens:=g',drawn:=d',toks:=t'}):=by
 have dX:bD! (rQ!=b! o->iN! b):=gJ! (_D (_j c8! nY!));have fY:bD! (rQ!=b! o->b∉ll!->b∉ch):=λb o e hx hb=>by
  rcases (cO b hb).1 with z | z;·exact hx z
  ·exact kS! (_j c8! z) _
 have dc:∀x c,gR! x c->∀v,s.heap.IsCell c v->h'.IsCell c v:=λx c e v ⟨o,ho,hd⟩=>by
  have eI := λz=>(cO c z).2.2.1 x c e rfl;by_cases hc:c∈ji!
  ·obtain⟨sl,q⟩:=slot c o (I.cne x c e) hc eI ho (I.freeC x c e);exact bM! q hd
  ·exact cy! (keep c o (I.cne x c e) hc eI ho (I.freeC x c e)) hd
 refine⟨nc!,jR!,hg,⟨qc! (keep b o (dX b o e) hb (fY b o e hx) (qa! b o e n hb hx) (rF! o e n hx)),qc! ?_,λb o e n hx=>?_,λb o e hx=>?_,λb xs e=>tups b xs (I.base.tups b xs e),λb o xs e=>frzs b o xs (I.base.frzs b o xs e),λb ps e=>?_⟩,?_,λx c e=>?_,?_,λx c e=>?_,bs! ?_,hok,lm!⟩
 ·obtain⟨sl,e1⟩:=qb! b o e n hb hx;obtain⟨i7,e2⟩:=slot b _ (dX b o e) hb (fY b o e hx) e1 (rF! o e n hx);exact aw! i7 e2
 ·obtain⟨o',e1⟩:=oO! o e hx;exact free b o' (fY b o e hx) e1 (rF! o e n hx)
 ·obtain⟨o',e1⟩:=oO! o e hx;exact there b o' (fY b o e hx) e1
 ·obtain⟨m1,e1⟩:=I.base.tbls b ps e;obtain⟨m2,e2⟩:=tbls b _ e1;exact⟨m1++m2,by rw[e2,Array.append_assoc]⟩
 ·obtain⟨m,hn,hl⟩:=I.loc;refine⟨m,ns m hn,λi x v e1 e2 e3=>?_⟩;obtain⟨u,r,l⟩:=hl i x v e1 e2 e3;refine aN! u r ?_;rcases l with l | ⟨k,c,e,z⟩;·exact z! l
  ·exact T! ⟨k,c,e,dc x c e _ z⟩
 ·obtain⟨v,z⟩:=nE! x e;exact⟨v,dc x c e v z⟩
 ·obtain⟨m,⟨o,_,_,ho,_⟩,_⟩:=I.loc;exact free _ o (λz=>(cO _ z).2.1 rfl) ho iE!
 ·obtain⟨v,o,ho,hd⟩:=nE! x e;exact free c o (λz=>(cO c z).2.2.1 x c e rfl) ho (I.freeC x c e)
 ·obtain⟨e,n,ne,nf,d⟩:=k8! hp;have eI := λz=>(cO p.1 z).2.2.2 p hp rfl;exact⟨keep p.1 p.2 ne nf eI e n,free p.1 p.2 eI e n,ne,nf,d⟩
theorem Inv.un(I:L!)(u:Un ji! [] H H' I! h')(hok:HOk aO! X.w H' h'):cQ! H' ({s with heap:=h',toks:=t'}):=by
 obtain⟨m,⟨o,es,ep,ho,r⟩,_⟩:=id l8!;obtain⟨sl,hL⟩:=u.any ho iE! (by simp);exact I.step (ch:=[]) (λ_ z=>nomatch z) (λb o _ hb _ e n=>u.keep b o e n hb (by simp)) (λb o _ hb _ e n=>u.slot b o e n hb (by simp)) (λb o _ e n=>u.free b o e n (by simp)) (λb o _ e=>u.there b o e (by simp)) u.tups u.frzs u.tbls (λm' hm=>by
  obtain⟨o',gK,gL,bY,r'⟩:=hm;rw[ho]at bY;cases bY;exact⟨_,gK,gL,hL,r'⟩) hok I.bare
theorem Inv.call(I:L!)(u:Un (frs jh!) ch H H' I! h')(hok:HOk aO! X.w H' h')(hg:rG! g') (cO:∀b∈ch,(b∈ll!\/X.s₀.heap.objs.size<=b)/\iN! b/\(∀x c,gR! x c->c≠b)/\∀p∈iD!++ae,p.1≠b): cQ! H' ({s with heap:=h',gens:=g',drawn:=d',toks:=t'}):=by
 obtain⟨m,⟨o,es,ep,ho,r⟩,_⟩:=id l8!;obtain⟨sl,hL⟩:=u.any ho iE! λz=>(cO _ z).2.1 rfl;exact I.step cO (λb o hL hb hc e n=>u.keep b o e n (λz=>(dE! (I.stkSub b z)).elim hL hb) hc) (λb o _ _ hc e n=>u.any e n hc) (λb o hc e n=>u.free b o e n hc) (λb o hc e=>u.there b o e hc) u.tups u.frzs u.tbls (λm' hm=>by
  obtain⟨o',gK,gL,bY,r'⟩:=hm;rw[ho]at bY;cases bY;exact⟨_,gK,gL,hL,r'⟩) hok hg
theorem Inv.turned(I:L!)(k:bD! (b≠it->dp! b->dC! b))(hn:H it=a!)(hL:iN! it) (h1:it∈ll!\/X.s₀.heap.objs.size<=it)(h2:∀x c,gR! x c->c≠it)(h3:∀p∈iD!++ae,p.1≠it):lI! ({s with heap:=h',toks:=t'}):=by
 have eJ:∀b u,cY! u->b≠it:=λb u e z=>by rw[z,hn]at e;cases e
 refine I.step (ch:=[it]) (cr! ?_) (λb o _ _ hc e _=>k b o (λz=>hc (by simp[z])) e) (λb o _ _ hc e _=>⟨o.slots,k b o (λz=>hc (by simp[z])) e⟩) (λ_ _ _ _ n=>n) (λb o hc e=>⟨o,k b o (λz=>hc (by simp[z])) e⟩) (λ_ _ e=>e) (λ_ _ _ e=>e) (λb ps e=>⟨#[],by rw[e];rfl⟩) (λm hm=>?_) (λb u e=>?_) I.bare
 ·have e:b=it:=by simpa using hb
  subst e;exact⟨h1,hL,h2,h3⟩
 ·obtain⟨o,es,ep,ho,r⟩:=hm;exact⟨o,es,ep,k _ o (_bN hL) ho,r⟩
 ·refine (nZ! b u e).stay (λc v hc q=>k c v ?_ q) (λ_ q=>q) λ_ _ q=>q;rcases hc with z | z;·rw[z];exact eJ b u e
  ·exact eJ c _ z
theorem Inv.tok(I:L!)(t:Nat):lI! ({s with toks:=t}):=I.un Un.refl eK!
theorem Inv.kept(I:L!)(k:∀b u,fY! b u->gp! b u):lI! ({s with heap:=h',toks:=t'}):=I.un (Un.kept k) (I.hok.kept k)
theorem Inv.laid{a:Addr} (I:L!) (k:∀b u,fY! b u->gp! b u) (hp:ar!<=a) (new:kF aO! X.w (hb! o) h' a o): cQ! (hb! o) ({s with heap:=h',toks:=t'}):=I.un (Un.laid k hp (sf! hp)) (I.hok.laid k hp new)
theorem Inv.write(I:L!) (mu:Mut (H x)) (he:e=x\/H e=b! (.own x)) (k:∀b u,b≠e->fY! b u->gp! b u) (dU:∃u,gp! e u) (new:kF aO! X.w (hS! x o) h' x o):cQ! (hS! x o) ({s with heap:=h',toks:=t'}):=I.un (Un.write mu he k dU) (I.hok.write mu he k dU new)
theorem Inv.weak(I:L!)(hl:O'.length=O.length)(w:∀(i:Nat) v,am! O' bB!->am! O bB!):kN! O' H s:= ⟨nc!,jR!,jj!,n0!,let ⟨m,hn,eK⟩:=I.loc;⟨m,hn,λi x v e1 e2 e3=>eK i x v e1 (w i v e2) e3⟩,n1!,iE!,ln!,I.pin,eK!,hl.trans lm!⟩
theorem Inv.pins_of(I:L!)(h:∀p∈pins',fY! p.1 p.2/\H p.1=a!/\iN! p.1/\p.1∉ji!/\∀v,p.2.data≠.cell v):Inv X pins' O H s:= ⟨nc!,jR!,jj!,n0!,l8!,n1!,iE!,ln!,bs! (mR! hp (λz=>k8! (_ba _ z)) (h p)),eK!,lm!⟩
theorem zej{N:ao!}(hN:N.Nodup){i j:Nat} (a:am! N x)(b:G! N j x):i=j:=by
 obtain⟨h1,e1⟩:=n2! a;obtain⟨h2,e2⟩:=n2! b;exact (_a1 hN).mp (e1.trans e2.symm)
theorem z7C(I:L!)(hN:X.N.Nodup)(hi:f5! x)(hx:rg! x)(r:wV v u) (h:∀s',kN! (lY! i) H s'->(∃a,Heap.SameBut a I! gK!/\(a=jQ!\/gR! x a))->Q () s')(hf:gT! (f3! x\/eU! x)):fJ! M A (storeName aT! x u) Q E:=by
 obtain⟨m,hn,hl⟩:=id l8!;have i8:i<O.length:=by rw[I.len];exact cV! hi
 have cne:=I.cne;have bR:∀{a:Addr}{h':Heap},(∃o,dp! a/\H a=a!)->Heap.SameBut a I! h'->HOk aO! X.w H h':=λ{a h'} ha hs b ob e=>by
  obtain⟨_,_,de⟩:=ha;refine (nZ! b ob e).stay (λc w' hc q=>bb! (hs.2 c ?_) q) (λ_ q=>q) λ_ _ q=>q;rintro rfl;rcases hc with rfl | hc;·rw[de]at e;cases e
  ·rw[de]at hc;cases hc
 rcases hx with hk | hk
 ·refine wpAny_storeName_local hk hn (λh' mP hs=>?_) (by rw[I.ok.kind];rfl);obtain⟨oL,_,_,mQ,_⟩:=id hn;refine h _ ⟨nc!,jR!,jj!,⟨qc! ?_,qc! ?_,I.base.free,λb o e hx=>?_,I.base.tups,I.base.frzs,I.base.tbls⟩,bM! mP (λj y v' e1 e2 e3=>?_),λy c e=>?_,iE!,ln!,bs! ?_,bR ⟨oL,mQ,iE!⟩ hs,by simpa using I.len⟩ (bM! hs c4!);·exact bb! (hs.2 b (_D (_j c8! nY!))) (qa! b o e n hb hx)
  ·obtain⟨sl,e1⟩:=qb! b o e n hb hx;exact⟨sl,bb! (hs.2 b (_D (_j c8! nY!))) e1⟩
  ·obtain⟨o',e1⟩:=oO! o e hx;exact⟨o',bb! (hs.2 b (_D (_j c8! nY!))) e1⟩
  ·by_cases hj:j=i
   ·subst hj;rw[hi]at e1;cases e1;rw[_ai i8]at e2;cases e2;exact⟨u,r,z! ⟨hk,by simp⟩⟩
   ·rw[_ac (_bN hj)]at e2;obtain⟨u',r',q⟩:=hl j y v' e1 e2 e3;refine aN! u' r' ?_;rcases q with⟨k,e⟩ | ⟨k,c,e,z⟩
    ·refine z! ⟨k,?_⟩;have:y≠x:=λe=>hj (zej hN e1 (e ▸ hi));simp[this,e]
    ·exact T! ⟨k,c,e,z.sameBut hs (cne y c e)⟩
  ·obtain⟨w',z⟩:=nE! y e;exact⟨w',z.sameBut hs (cne y c e)⟩
  ·obtain⟨e,n,ne,nf,d⟩:=k8! hp;exact⟨bb! (hs.2 p.1 ne) e,n,ne,nf,d⟩
 ·have gM:f3! x:=by
   rcases hf with z | z;·exact z
   ·rw[z]at hk;cases hk
  obtain⟨c,hc⟩:=I.ok.has x (z! hk);obtain⟨w',z⟩:=nE! x hc;refine wpAny_storeName_cell qd! hk hc z (λh' cA hs=>?_);obtain⟨oc,i9,gN⟩:=id z;refine h {s with heap:=h'} ⟨nc!,jR!,jj!,⟨qc! (bb! (hs.2 b (_D (_j c8! (I.ok.cab x c gM hc)))) (qa! b o e n hb hx)),qc! ?_,I.base.free,λb o e hx=>?_,I.base.tups,I.base.frzs,I.base.tbls⟩,⟨m,hn.sameBut hs (_bN (cne x c hc)),λj y v' e1 e2 e3=>?_⟩,λy c' e=>?_,iE!,ln!,bs! ?_,bR ⟨oc,i9,I.freeC x c hc⟩ hs,by simpa using I.len⟩ ⟨c,hs,T! hc⟩
  ·obtain⟨sl,e1⟩:=qb! b o e n hb hx;exact⟨sl,bb! (hs.2 b (_D (_j c8! (I.ok.cab x c gM hc)))) e1⟩
  ·obtain⟨o',e1⟩:=oO! o e hx;exact⟨o',bb! (hs.2 b (_D (_j c8! (I.ok.cab x c gM hc)))) e1⟩
  ·by_cases hj:j=i
   ·subst hj;rw[hi]at e1;cases e1;rw[_ai i8]at e2;cases e2;exact⟨u,r,T! ⟨z! hk,c,hc,cA⟩⟩
   ·rw[_ac (_bN hj)]at e2;obtain⟨u',r',q⟩:=hl j y v' e1 e2 e3;refine aN! u' r' ?_;rcases q with q | ⟨k,c',e,z'⟩;·exact z! q
    ·refine T! ⟨k,c',e,z'.sameBut hs ?_⟩;rintro rfl;exact hj (zej hN e1 (I.ok.inj _ _ _ e hc ▸ hi))
  ·by_cases hcc:c'=c;·subst hcc;exact gy! cA
   ·obtain⟨w2,z2⟩:=I.cell y c' e;exact⟨w2,z2.sameBut hs hcc⟩
  ·obtain⟨e,n,ne,nf,d⟩:=k8! hp;refine⟨bb! (hs.2 p.1 ?_) e,n,ne,nf,d⟩;intro q;rw[q,i9]at e;exact d w' (by rw[<- (_J e)];exact gN)
theorem z3k(I:L!)(hN:X.N.Nodup)(hi:f5! x)(hx:rg! x)(r:wV v u) (h:∀s',kN! (lY! i) H s'->Q () s')(hf:gT! (f3! x\/eU! x)):fJ! M A (storeName aT! x u) Q E:= z7C I hN hi hx r (λs' I' _=>h s' I') hf
theorem Inv.call'(I:L!)(ho:qe!=s.os)(u:Un (frs jh!) ch H H' I! gK!)(hok:HOk aO! X.w H' gK!)(hg:rl!) (cO:∀b∈ch,(b∈ll!\/X.s₀.heap.objs.size<=b)/\iN! b/\(∀x c,gR! x c->c≠b)/\∀p∈iD!++ae,p.1≠b):cQ! H' s':=by
 obtain⟨h',g',d',t',o'⟩:=s';subst ho;exact I.call u hok hg cO
end
abbrev XK:=dX!->oR!->cz!
noncomputable abbrev St:=mp! V
abbrev VK:=V->cz!
abbrev TE:=St->Hp->eE!
abbrev TT:=St->Hp->(cc!->cz!)->k!
abbrev TA:=St->Hp->(aM!->cz!)->k!
structure znW where
 nx:St->cz!
 rt:VK
 bk:St->cz!:=iP!
 ct:St->cz!:=iP!
abbrev TS:=znW->St->cz!
def EP(X:Cx)(ae:dh!)(O:St)(Q:VK)(u:Value)(s':Shared):k!:=∃v H',cQ! H' s'/\wV v u/\Q v H'
def TP(X:Cx)(ae:dh!)(O:St)(Q:cc!->cz!)(b:Bool)(s':Shared):k!:=∃H',cQ! H' s'/\Q b H'
def AP(X:Cx)(ae:dh!)(O:St)(Q:aM!->cz!)(us:c3!)(s':Shared):k!:=∃vs H',cQ! H' s'/\kh! vs/\Q vs H'
def SP(X:Cx)(ae:dh!)(D:znW)(f:Flow)(s':Shared):k!:= match f with
 | .next=>∃O' H',kN! O' H' s'/\D.nx O' H' | .brk=>∃O' H',kN! O' H' s'/\D.bk O' H' | .cont=>∃O' H',kN! O' H' s'/\D.ct O' H' | .ret u=>∃v O' H',kN! O' H' s'/\wV v u/\D.rt v H'
def PE(X:Cx)(e:Expr)(t:TE):k!:= ∀(ae:List (Addr×Obj))(s:Shared)(O:St)(H:Hp)(Q:VK),L!->t O H Q->bO! (hk! e) (EP X ae O Q) s
def PT(X:Cx)(e:Expr)(t:TT):k!:= ∀(ae:List (Addr×Obj))(s:Shared)(O:St)(H:Hp)(Q:Bool->Hp->Prop),L!->t O H Q->bO! (qf! e aT! (hk! e)) (TP X ae O Q) s
def PW(X:Cx)(e:Expr)(t:TT):k!:= ∀(whole:Sem Value)(ae:List (Addr×Obj))(s:Shared)(O:St)(H:Hp)(Q:Bool->Hp->Prop),L!->t O H Q->bO! (qf! e aT! whole) (TP X ae O Q) s
theorem PW.pt(h:PW X e t):PT X e t:=h _
def PA(X:Cx)(es:aD!)(t:TA):k!:= ∀(pos:Pos)(ae:List (Addr×Obj))(s:Shared)(O:St)(H:Hp)(Q:List V->Hp->Prop),L!->t O H Q->bO! (spliced (hO! pos es)) (AP X ae O Q) s
def PS(X:Cx)(st:Stmt)(t:TS):k!:= ∀(ae:List (Addr×Obj))(s:Shared)(O:St)(H:Hp)(D:znW),L!->t D O H->bO! (exec st aT!) (SP X ae D) s
def PSs(X:Cx)(st:ny!)(t:TS):k!:= ∀(ae:List (Addr×Obj))(s:Shared)(O:St)(H:Hp)(D:znW),L!->t D O H->bO! (execs st aT!) (SP X ae D) s
theorem thn{Q Q':α->ey!} (h:fJ! M A t Q E)(hQ:∀a s,Q a s->Q' a s):fJ! M A t Q' E:=_aa h hQ λ_ _ x=>x
section
variable {X:Cx}
theorem bin(ha:V! a ta)(hb:V! b tb) {O:St} {R:V->V->cz!}(I:L!)(h:ta O H (hE! (tb O H1 λy H2=>R x y H2))) {f:dX!->dX!->Sem α} (hf:∀v u s2 x y H2,cQ! H2 s2->wV x v->wV y u->R x y H2->bO! (f v u) Q s2): bO! (hk! a) (λv s₁=>bO! (hk! b) (λu s₂=>bO! (f v u) Q ma!) jk!) s:=by exact thn (ha ae s O H _ I h) λv s1 ⟨x,H1,I1,r1,q1⟩=>(thn (hb ae s1 O H1 _ I1 q1) λu s2 ⟨y,H2,I2,r2,q2⟩=>(hf v u s2 x y H2 I2 r1 r2 q2))
def zwi(i:Nat):TE:=gL! (∃v,am! O bB!/\Q v H)
def tC(v:V):TE:=λ_ H Q=>Q v H
theorem zlX{pos:Pos}(hN:f5! x)(hv:sA! x)(hd:cm! (x==cP!))(bz:cm! (x==o! "__classdict__")):V! mW! (zwi i):=by
 intro ae s O H Q I h;obtain⟨v,e,h⟩:=h;obtain⟨m,hn,hl⟩:=I.loc;obtain⟨u,r,l⟩:=hl i x v hN e hv;have fin:EP X ae O Q u s:=⟨v,H,I,r,h⟩;rcases l with⟨hk,hm⟩ | ⟨hk,c,hc,bS⟩;·exact wpAny_Name (wpAny_loadName_local qd! hk hn hm fin) hd
 ·rcases hk with hk | hk;·exact wpAny_Name (wpAny_loadName_cell qd! hk hc bS fin) hd
  ·exact wpAny_Name (wpAny_loadName_free qd! hk hc bS fin bz) hd
theorem zmB: V! (jE! Y! pos) (tC Y!):=pe! (wpAny_Constant_int ⟨Y!,H,im!,cf! _,h⟩)
theorem ztM: V! (jE! k7! pos) (tC hD!):=pe! (Constant_bool (bo! hD! H I h))
theorem zqF: V! (jE! aa! pos) (tC an!):=pe! (Constant_none (bo! an! H I h))
theorem zm3: V! (jE! bY! pos) (tC bY!):=pe! (_cy ⟨bY!,H,im!,cf! _,h⟩)
def Gl(X:Cx)(x:Str):k!:=fT! x=b! .globalImplicit
theorem z4m{O:St} (I:L!)(hg:e6!)(hm:X.mg x=b! u)(h:Q u s) (hd:cm! (x==cP!)):lK! (hk! mW!) Q E s:= Calls.Name_function_global qd! hg (Calls.loadGlobal_global (by rw[I.ok.glob];exact I.mod.glob.keeps I.bk) hm h) hd
theorem z2b{E:bX!} {O:St} {pos:Pos} (I:L!)(hg:e6!)(hm:dM! x)(hv:kO! x u)(h:Q u s) (hn:j1! (lQ! x))(hd:cm! (x==cP!)):lK! (hk! mW!) Q E s:=by
 obtain⟨mb,h1,h2⟩:=I.mod.blt;exact Calls.Name_function_global qd! hg (Calls.loadGlobal_builtin (by rw[I.ok.glob];exact I.mod.glob.keeps I.bk) hm (by rw[I.ok.blt];exact h1.keeps I.bk) (bb! (h2 x hn) hv) h) hd
theorem z7n(hg:e6!)(hm:X.mg x=b! u)(r:wV v u)(hd:cm! (x==cP!)):V! mW! (tC v):= pe! (z4m I hg hm ⟨v,H,I,r,h⟩ hd)
theorem za9{pos:Pos}(hg:e6!)(hm:dM! x)(hv:kO! x u)(r:wV v u)(hn:j1! (lQ! x))(hd:cm! (x==cP!)):V! mW! (tC v):= pe! (z2b I hg hm hv ⟨v,H,I,r,h⟩ hn hd)
variable {a b:Expr}{ta tb:TE}{pos:Pos}
def PC(X:Cx)(op:CmpOp)(a b:Expr)(t:TE):k!:= ∀(ae:List (Addr×Obj))(s:Shared)(O:St)(H:Hp)(Q:VK),L!->t O H Q-> bO! (hk! a) (λv s₁=>bO! (hk! b) (λu s₂=>bO! (compareOp op v u) (EP X ae O Q) ma!) jk!) s
def tB(t:TE):TT:=k1! O H (hE! (∃c,x=.bl c/\Q c H1))
theorem zvj(h:PC X op a b t)(h1:pS! b=t!:=by first | exact nobehind _ (by decide) (by decide) | rfl):PT X (.Compare a [op] [b] pos) (tB t):=by
 refine λae s O H Q I hw=>wpAny_isTrue_Compare1 (thn (h ae s O H _ I hw) λv s1 h1=>thn h1 λu s2 h2=>thn h2 λc s3 ⟨x,H1,I1,r1,q1⟩=>?_) h1;obtain⟨d,rfl,q⟩:=q1;cases r1;exact _aV ⟨H1,I1,q⟩
theorem zqW(h:V! e t)(he:autoParam (∀whole,qf! e aT! whole=(do let v <- whole;standAt e.pos;n3! [v] (truthy v))) aIr):PT X e (tB t):=by
 refine λae s O H Q I hw=>isTrue_plain (thn (h ae s O H _ I hw) λv s1 ⟨x,H1,I1,r1,q1⟩=>?_) (he _);obtain⟨d,rfl,q⟩:=q1;cases r1;exact _aV ⟨H1,I1,q⟩
variable {tA fZ:TT}{kH:aD!}
def zvp(t u:TT):TT:=k1! O H (λc H1=>aF! c (u O H1 Q) (Q t! H1))
def tOr(t u:TT):TT:=k1! O H (λc H1=>aF! c (Q d! H1) (u O H1 Q))
def zwl(t:TT):TT:=k1! O H (λc H1=>Q (!c) H1)
theorem zob(ha:PT X a tA):PW X (hm! .And [a]) tA:=by
 refine λwh ae s O H Q I h=>isTrue_and (thn (ha ae s O H Q I h) λc s1 e=>?_);cases c with
 | true=>exact isTrue_and_nil e | false=>exact e
theorem zqb(ha:PT X a tA):PW X (hm! .Or [a]) tA:=by
 refine λwh ae s O H Q I h=>isTrue_or (thn (ha ae s O H Q I h) λc s1 e=>?_);cases c with
 | false=>exact isTrue_or_nil e | true=>exact e
theorem zq8(ha:PT X a tA)(hb:PW X (hm! .And (b::kH)) fZ):PW X (hm! .And (a::b::kH)) (zvp tA fZ):=by
 refine λwh ae s O H Q I h=>isTrue_and (thn (ha ae s O H _ I h) λc s1 ⟨H1,I1,q1⟩=>?_);cases c with
 | true=>exact hb wh ae s1 O H1 Q I1 q1 | false=>exact aN! H1 I1 q1
theorem ztP(ha:PT X a tA)(hb:PW X (hm! .Or (b::kH)) fZ):PW X (hm! .Or (a::b::kH)) (tOr tA fZ):=by
 refine λwh ae s O H Q I h=>isTrue_or (thn (ha ae s O H _ I h) λc s1 ⟨H1,I1,q1⟩=>?_);cases c with
 | true=>exact aN! H1 I1 q1 | false=>exact hb wh ae s1 O H1 Q I1 q1
theorem zpF(ha:PT X a tA):PT X (.UnaryOp .Not a pos) (zwl tA):=iF! (isTrue_not (ha ae s O H (λc H1=>Q (!c) H1) I h))
def zsF(ta tb:TE):TE:=gL! (ta O H (hE! (∃c,x=.bl c/\aF! c (tb O H1 Q) (Q fC! H1))))
def zty(ta:TE):TE:=gL! (ta O H (hE! (∃c,x=.bl c/\Q (.bl (!c)) H1)))
theorem zpY(h:V! a t):V! (hm! op [a]) t:=λae s O H Q I hw=>BoolOp_one (h ae s O H Q I hw)
theorem zpd(ha:V! a ta)(hb:V! (hm! .And (b::kH)) tb):V! (hm! .And (a::b::kH)) (zsF ta tb):=by
 refine iF! (BoolOp_and (thn (ha ae s O H _ I h) λv s1 ⟨x,H1,I1,r1,q1⟩=>?_));obtain⟨c,rfl,q1⟩:=q1;cases r1;refine _aV ?_;cases c with
 | true=>exact hb ae s1 O H1 Q I1 q1 | false=>exact bo! fC! H1 I1 q1
theorem zr6(ha:V! a ta):V! (.UnaryOp .Not a pos) (zty ta):=by
 refine iF! (UnaryOp_ (thn (ha ae s O H _ I h) λv s1 ⟨x,H1,I1,r1,q1⟩=>?_));obtain⟨c,rfl,q1⟩:=q1;cases r1;exact not_of (_aV (bo! (.bl (!c)) H1 I1 q1))
def tIf(t:TT)(ta tb:TE):TE:=k1! O H (λc H1=>aF! c (ta O H1 Q) (tb O H1 Q))
theorem zkl(hc:PT X c tA)(ha:V! a ta)(hb:V! b tb):V! (.IfExp c a b pos) (tIf tA ta tb):=by
 refine iF! (wpAny_IfExp (thn (hc ae s O H _ I h) λd s1 ⟨H1,I1,q1⟩=>?_));cases d with
 | true=>exact ha ae s1 O H1 Q I1 q1 | false=>exact hb ae s1 O H1 Q I1 q1
end
def SqL(K:W.Frag)(H:Hp)(a:Addr)(xs:aM!):k!:= Rd H a bH!\/ ∃(o:Obj)(af:Array Value)(n:Nat),oU!=b! o/\gk!=dd!/\o.dict=a!/\h5!=.seq af n/\af.size<=aS!/\xw xs pa!
def SqT(K:W.Frag)(H:Hp)(a:Addr)(xs:aM!):k!:= Rd H a ap!\/ ∃(o:Obj)(af:Array Value)(n:Nat),oU!=b! o/\gk!=dK!/\h5!=.seq af n/\af.size<=aS!/\xw xs pa!
noncomputable def zwq:dX!->bn! V
 | .none=>b! an! | .bool b=>b! hD! | .int i _=>e! i | .str x _=>b! bY! | .bytes b _=>b! (.byt b) | .float b _=>b! (.flt b) | .ref a=>a0! a | .type n=>b! (.ty n) | _=>none
theorem wV.abs(r:wV x u):zwq u=fk!:=by cases x with
 | non=>cases r;rfl | bl _=>cases r;rfl | int _=>obtain⟨t,rfl⟩:=r;rfl | str _=>obtain⟨t,rfl⟩:=r;rfl | byt _=>obtain⟨t,rfl⟩:=r;rfl | flt _=>obtain⟨t,rfl⟩:=r;rfl | ref _=>cases r;rfl | ty _=>cases r;rfl
theorem wV.inj(r:wV x u)(q:wV y u):x=y:=_J (r.abs.symm.trans q.abs)
theorem xw.inj:∀{xs ys:List V}{us:List Value},i5!->kh! ys->xs=ys
 | _,_,_,.nil,.nil=>rfl | _,_,_,.cons r t,.cons r' t'=>by rw[r.inj r',xw.inj t t']
section
variable {X:Cx}{ae:dh!}{O:St}{H:Hp}{s:Shared}{a:Addr}{xs ys:aM!}
theorem Inv.list(I:L!)(h:SqL X.K H a xs):∃af:List Value,xw xs af/\PlainL I! a fu!/\w!<=aS!:=by
 rcases h with h | ⟨o,af,n,hk,hc,hd,hs,hz,r⟩
 ·obtain⟨z,af,n,r,e⟩:=h.ok eK!;exact⟨af,r,⟨_,n,e,rfl,rfl,rfl⟩,z⟩
 ·refine⟨pa!,r,⟨o,n,I.kIn a o hk,hc,hd,by exact hs⟩,?_⟩;have e:=r.length;simp only[_aZ]at e;lia
theorem Inv.tuple(I:L!)(h:eH! X.K a xs):∃af:List Value,xw xs af/\IsTup I! a fu!/\w!<=aS!:=by
 rcases h with h | ⟨o,af,n,hk,hc,hs,hz,r⟩
 ·obtain⟨z,af,r,p⟩:=h.ok eK!;exact⟨af,r,p.tup,z⟩
 ·refine⟨pa!,r,⟨o,I.kIn a o hk,hc,n,by exact hs⟩,?_⟩;have e:=r.length;simp only[_aZ]at e;lia
theorem Inv.list_inj(I:L!)(h:SqL X.K H a xs)(h':SqL X.K H a ys):xs=ys:=by
 obtain⟨af,r,⟨o,n,e,_,_,d⟩,_⟩:=I.list h;obtain⟨aP,r',⟨o',n',e',_,_,d'⟩,_⟩:=I.list h';rw[e]at e';cases e';rw[d]at d';injection d' with d1 _;have:af=aP:=by exact _aM Array.toList d1
 subst this;exact r.inj r'
theorem Inv.tuple_inj(I:L!)(h:eH! X.K a xs)(h':eH! X.K a ys):xs=ys:=by
 obtain⟨af,r,⟨o,e,_,n,d⟩,_⟩:=lo! h;obtain⟨aP,r',⟨o',e',_,n',d'⟩,_⟩:=lo! h';rw[e]at e';cases e';rw[d]at d';injection d' with d1 _;have:af=aP:=by exact _aM Array.toList d1
 subst this;exact r.inj r'
end
noncomputable abbrev Cx.wish(X:Cx)(E:bX!):Cx:={X with xe:=E}
noncomputable abbrev Cx.nox(X:Cx):Cx:=qg! iP!
theorem Cx.Ok.wish{X:Cx}(ok:X.Ok)(E:bX!):(qg! E).Ok:= ⟨ok.mod,ok.kind,ok.glob,ok.blt,ok.above,ok.inj,ok.has,ok.cab,ok.hd,ok.frames,ok.stk,ok.exf,ok.bs,ok.bsz,ok.noex,ok.exfs,ok.funs,ok.frf⟩
theorem Cx.Ok.unwish{X:Cx} (ok:(qg! E).Ok):X.Ok:= ⟨ok.mod,ok.kind,ok.glob,ok.blt,ok.above,ok.inj,ok.has,ok.cab,ok.hd,ok.frames,ok.stk,ok.exf,ok.bs,ok.bsz,ok.noex,ok.exfs,ok.funs,ok.frf⟩
section
variable {X:Cx}{ae:dh!}{O:St}{H:Hp}{s:Shared}{E:bX!}
theorem Inv.wish(I:L!)(E:bX!):Inv (qg! E) ae O H s:=⟨I.ok.wish E,jR!,jj!,n0!,l8!,n1!,iE!,ln!,I.pin,eK!,lm!⟩
theorem Inv.unwish(I:Inv (qg! E) ae O H s):L!:=⟨I.ok.unwish,jR!,jj!,n0!,l8!,n1!,iE!,ln!,I.pin,eK!,lm!⟩
theorem SP.unwish{D:znW}{f:Flow}{s':Shared}(h:SP (qg! E) ae D f s'):SP X ae D f s':=by cases f with
 | next=>obtain⟨O',H',I,q⟩:=h;exact⟨O',H',I.unwish,q⟩ | brk=>obtain⟨O',H',I,q⟩:=h;exact⟨O',H',I.unwish,q⟩ | cont=>obtain⟨O',H',I,q⟩:=h;exact⟨O',H',I.unwish,q⟩ | ret u=>obtain⟨v,O',H',I,r,q⟩:=h;exact⟨v,O',H',I.unwish,r,q⟩
theorem PSs.nox{st:ny!} (h:PSs X.nox st t):PSs X st t:=λae s O H D I hw=> kW! (h ae s O H D (I.wish _) hw) (λ_ _ q=>q.unwish) (mb! z)
end
section
variable {X:Cx}{st:Stmt}{kH:ny!}{t u:TS}{e:Expr}{te:TE}{pos:Pos}
def zt1:TS:=lp! (D.nx O H)
def zv0(t u:TS):TS:=lp! (t {D with nx:=u D} O H)
theorem zn0:PSs X [] zt1:=λ_ _ O H _ I h=>_cm ⟨O,H,I,h⟩
theorem zjA(h1:PS X st t)(h2:PSs X kH u):PSs X (st::kH) (zv0 t u):=by
 refine ne! (wpAny_execs_cons (thn (h1 ae s O H {D with nx:=u D} I h) λf s1 q=>?_));cases f with
 | next=>
  obtain⟨O',H',I',q⟩:=q;exact h2 ae s1 O' H' D I' q | ret v=>exact q | brk=>exact q | cont=>exact q
theorem zmZ(h1:PS X st t):PSs X [st] t:=by
 refine ne! (wpAny_execs_cons (thn (h1 ae s O H D I h) λf s1 q=>?_));cases f with
 | next=>exact _cm q | ret v=>exact q | brk=>exact q | cont=>exact q
theorem Inv.quiet{O:St} (I:L!):interactive aT!=t!:=by simp[interactive,I.ok.kind]
def ztF(te:TE):TS:=lp! (te O H λ_ H1=>D.nx O H1)
theorem zo6(he:V! e te)(hs:y! (mu! e a! n4!=mE!)):PS X (.Expr e pos) (ztF te):=ne! (wpAny_Expr_any (thn (he ae s O H _ I h) λv s1 ⟨x,H1,I1,r1,q1⟩=>⟨O,H1,I1,q1⟩) I.quiet hs)
def zvV(te:TE):TS:=lp! (te O H D.rt)
theorem zpG(he:V! e te):PS X (.Return l! pos) (zvV te):=ne! (wpAny_Return_some (thn (he ae s O H _ I h) λv s1 ⟨x,H1,I1,r1,q1⟩=>⟨x,O,H1,I1,r1,q1⟩))
def zwn(c:TT)(t u:TS):TS:=lp! (c O H λb H1=>aF! b (t D O H1) (u D O H1))
theorem zus(hc:PT X c tc)(ha:PSs X a t)(hb:PSs X b u):PS X (.If c a b pos) (zwn tc t u):=by
 refine ne! (wpAny_If (thn (hc ae s O H _ I h) λd s1 ⟨H1,I1,q1⟩=>?_));cases d with
 | true=>exact ha ae s1 O H1 D I1 q1 | false=>exact hb ae s1 O H1 D I1 q1
def zpt:TS:=fx! nd!
theorem zjK:PS X st zpt:=λ_ _ _ _ _ _ h=>h.elim
end
abbrev TG:=V->St->Hp->(St->cz!)->k!
abbrev TGs:=aM!->St->Hp->(St->cz!)->k!
def PG(X:Cx)(bA:Expr)(t:TG):k!:= ∀(ae:List (Addr×Obj))(s:Shared)(O:St)(H:Hp)(v:V)(u:Value)(Q:St->Hp->Prop),L!->wV v u->t v O H Q-> bO! (assign bA aT! u) (λ_ s'=>∃O' H',kN! O' H' s'/\Q O' H') s
def PGs(X:Cx)(ts:aD!)(t:TGs):k!:= ∀(ae:List (Addr×Obj))(s:Shared)(O:St)(H:Hp)(vs:List V)(us:List Value)(Q:St->Hp->Prop),L!->kh! vs->t vs O H Q-> bO! (assignInOrder ((oG! ts).map (·.2)) us) (λ_ s'=>∃O' H',kN! O' H' s'/\Q O' H') s
abbrev zvg:=V->V->V->Hp->cz!->k!
def zvh(X:Cx)(t:zvg):k!:= ∀(ae:List (Addr×Obj))(s:Shared)(O:St)(H:Hp)(o i v:V)(ov iv u:Value)(Q:Hp->Prop),L!->wV o ov->wV i iv->wV v u->t o i v H Q-> bO! (setItem ov iv u) (λ_ s'=>∃H',cQ! H' s'/\Q H') s
section
variable {X:Cx}{pos:Pos}
noncomputable def zfv(i:Nat):TG:=λv O H Q=>Q (lY! i) H
theorem zL(hN:X.N.Nodup)(hi:f5! x)(hx:rg! x)(hf:gT! (f3! x\/eU! x)):PG X mW! (zfv i):=λae s O H v u Q I r h=>_cU (z3k I hN hi hx r (λs' I'=>⟨_,H,I',h⟩) hf)
noncomputable def zv4:TGs:=λvs O H Q=>vs=[]/\Q O H
def znV(t:TG)(u:TGs):TGs:=λvs O H Q=>∃v r,vs=v::r/\t v O H λO' H'=>u r O' H' Q
theorem zdS:PGs X [] zv4:=by
 intro ae s O H vs us Q I r h;obtain⟨e,h⟩:=h;exact assignInOrder_nil ⟨O,H,I,h⟩
theorem z0r(h1:PG X e t)(h2:PGs X es u) (hs:y! ((oG! (e::es)).map (·.2)=assign e aT!::(oG! es).map (·.2))):PGs X (e::es) (znV t u):=by
 intro ae s O H vs us Q I r h;obtain⟨v,vr,e1,h⟩:=h;subst e1;cases r with | cons r rr=>
  rw[hs];exact _cA (thn (h1 ae s O H _ _ _ I r h) λ_ s1 ⟨O1,H1,I1,q1⟩=>(h2 ae s1 O1 H1 _ _ Q I1 rr q1))
def zvi(K:W.Frag)(n:Nat)(t:TGs):TG:=λv O H Q=>∃a xs,v=ag!/\eH! K a xs/\w!=n/\t xs O H Q
theorem ziv{k:Nat} (hc:bW!)(h:PGs X es t) (hn:y! (v! (oG! es)=n))(dF:y! ((oG! es).findIdx? (·.1)=a!)):PG X (hF! es k pos) (zvi X.K n t):=by
 intro ae s O H v u Q I r hw;obtain⟨a,xs,e1,hq,hl,hw⟩:=hw;subst e1;cases r;obtain⟨af,rv,ht,hz⟩:=nx!;exact assign_Tuple_tuple hl! ht (by simp[hn,<- hl,rv.length]) dF λh' hx=>(h ae _ O H xs _ Q (I.kept (t':=s.toks) (gJ! (hx b o (_D c8!) e))) (by exact rv) hw)
noncomputable def zwf(to ti:TE)(t:zvg):TG:=λv O H Q=>to O H λo H1=>ti O H1 λi H2=>t o i v H2 λH3=>Q O H3
theorem zp8(ho:V! o to)(hi:V! i ti)(hs:zvh X t) (ha:∀v,assign (my! o i) aT! v=(do
   let ov <- n3! [v] gC! let iv <- n3! [v,ov] (hk! i)
   standAt pos
   n3! [v,ov,iv] (setItem ov iv v)
   release [v,ov,iv] []):=by intro _;rfl):PG X (my! o i) (zwf to ti t):=by
 intro ae s O H v u Q I r h;exact _a (_aS (thn (ho ae s O H _ I h) λov s1 ⟨x,H1,I1,r1,q1⟩=>(_a (_aS (thn (hi ae s1 O H1 _ I1 q1) λiv s2 ⟨y,H2,I2,r2,q2⟩=>(_a (_cf (_a (_aS (thn (hs ae s2 O H2 x y v ov iv u _ I2 r1 r2 r q2) λ_ s3 ⟨H3,I3,q3⟩=>(wpAny_release ⟨O,H3,I3,q3⟩)))))))))))
def zsE(te:TE)(g:TG):TS:=lp! (te O H (hE! (g x O H1 D.nx)))
theorem zm0(he:V! e te)(hg:PG X tg g)(hs:y! (rS! [tg] e aT!=mE!))(hw:y! (rV! [tg] e=dY! a!)) (h1:y! ((oG! [tg]).map (·.2)=[assign tg aT!])):PS X (.Assign [tg] e pos) (zsE te g):=by
 refine ne! (wpAny_Assign_stores (thn (he ae s O H _ I h) λv s1 ⟨x,H1,I1,r1,q1⟩=>?_) hs hw);rw[h1];exact thn (hg ae s1 O H1 x v _ I1 r1 q1) λ_ s2 q=>q
theorem zro(hN:X.N.Nodup)(hi:f5! x)(hx:rg! x)(he:V! e te)(hs:y! (mu! e (b! (fe! cB)) n4!=mE!))(hf:gT! (f3! x\/eU! x)): PS X (.Assign [fe! cB] e pos) (zsE te (zfv i)):=by exact ne! (wpAny_Assign_Name (thn (he ae s O H _ I h) λv s1 ⟨y,H1,I1,r1,q1⟩=>(z3k I1 hN hi hx r1 (λs2 I2=>⟨_,H1,I2,q1⟩) hf)) hs)
def zvz(i j:Nat)(ta:TA):TS:=lp! (ta O H λvs H1=>∃v w,vs=[v,w]/\D.nx (gX! (lY! i) j w) H1)
theorem zqi(hc:bW!) (hN:X.N.Nodup) (hi:f5! x) (hj:G! X.N j y) (aJ:i≠j) (hx:eU! x) (hy:eU! y) (ha:PA X [a,b] ta) (hw:rV! [iV! [fe! px,ge!] pt] (hF! [a,b] k2 dY)=dY! (b! [x,y])) (hs:y! (rS! [iV! [fe! px,ge!] pt] (hF! [a,b] k2 dY) aT!=mE!)): PS X (.Assign [iV! [fe! px,ge!] pt] (hF! [a,b] k2 dY) pos) (zvz i j ta):=by
 refine ne! (_a (_cf ?_));refine _a (_m (_a (Tuple_ (thn (ha _ ae s O H _ I h) λus s1 ⟨vs,H1,I1,r1,q1⟩=>?_))));obtain⟨v,w,e1,q1⟩:=q1;subst e1;obtain⟨u1,u2,rfl,rv,eM⟩:∃u1 u2,us=[u1,u2]/\wV v u1/\wV w u2:=by cases r1 with | cons p q=> cases q with | cons p' q'=>
    cases q';exact gW! _ _ p p'
 refine _aG ?_ (by show 2<=aS!;decide);have I2:cQ! H1 ({s1 with heap:=qh! ({cls:=dK!,data:=oX! [u1,u2]})}):=n5! (lW! _ e);rw[hw];refine _a (_m ?_);refine _a (_cB (_a (unpackItems_tuple (items:=#[u1,u2]) hl! (IsTup.new qi! _) λh' hx'=>(_a (_cA (wpAny_bindName (z3k (I2.kept (h':=h') (t':=s1.toks) (gJ! (hx' b o (_D c8!) e))) hN hj (z! hy) eM (λs2 I4=>?_) (T! hy))))))));refine _cA (wpAny_bindName (z3k I4 hN hi (z! hx) rv (λs3 I5=>assignInOrder_nil (_m ?_)) (T! hx)));rw[List.set_comm _ _ (_bN aJ)]at I5;exact⟨_,H1,I5,q1⟩
end
section
variable {X:Cx}{pos:Pos}
def zpM(c:TT)(tb:TS):TS:=lp! (∃W:Nat->St->Hp->Prop,(∃m,W m O H)/\∀m O H,W m O H-> c O H λb H1=>aF! b (∃N:St->Hp->Prop,(∀O' H',N O' H'->∃m',m'<m/\W m' O' H')/\tb {D with nx:=N,ct:=N,bk:=D.nx} O H1) (D.nx O H1))
theorem zl6(hp:PassesOwn (oQ! X.w) X.A aT! X.xe)(hc:PT X c tc)(hb:PSs X dF! tb):PS X (.While c dF! [] pos) (zpM tc tb):=by
 intro ae s O H D I h;obtain⟨W,⟨m0,w0⟩,turn⟩:=h;refine wpAny_While (codeAny_whileLoop (λn s'=>∃O' H',kN! O' H' s'/\W n O' H') ?_ m0 ⟨O,H,I,w0⟩);rintro n s1 ⟨O1,H1,I1,w1⟩;refine _a7 hp (thn (hc ae s1 O1 H1 _ I1 (turn n O1 H1 w1)) λb s2 ⟨H2,I2,q2⟩=>?_);cases b with
 | true=>
  obtain⟨N,hN,q2⟩:=q2;refine _a7 hp (thn (hb ae s2 O1 H2 _ I2 q2) λf s3 q3=>?_);cases f with
  | next=>
   obtain⟨O3,H3,I3,n3⟩:=q3;obtain⟨m',hm,w3⟩:=hN O3 H3 n3;exact⟨m',hm,O3,H3,I3,w3⟩ | cont=>
   obtain⟨O3,H3,I3,n3⟩:=q3;obtain⟨m',hm,w3⟩:=hN O3 H3 n3;exact⟨m',hm,O3,H3,I3,w3⟩ | brk=>exact q3 | ret v=>exact q3
 | false=> exact _cm ⟨O1,H2,I2,q2⟩
end
structure It where
 go:Nat->cz!
 yld:Nat->Hp->V->cz!
 stop:Nat->cz!
def zcM(X:Cx)(ae:dh!)(H:Hp)(b:Addr):k!:= e7!/\iN! b/\b∉ji!/\(b∈ll!\/X.s₀.heap.objs.size<=b)/\(∀x c,gR! x c->c≠b)/\∀p∈iD!++ae,p.1≠b
theorem Inv.fpOk{O:St} {b:Addr}(I:L!)(hb:ar!<=b)(hn:ga! b):zcM X ae H' b:=by
 refine⟨hn,_ct (_j I.lt hb),I.nofs hb,T! (_Z I.sz hb),λx c e z=>?_,λp hp z=>(kS! (_j (_q (k8! hp).1) (by rw[z];exact hb)) _)⟩
 ·obtain⟨v,q⟩:=nE! x e;exact kS! (_j q.lt (by rw[z];exact hb)) _
structure zkf(P:Program)(w:World)(K:W.Frag)(tg:Expr)(J:It)(fp:bi!)(it:Addr)(tn:Nat->Heap->k!):k! where
 mem:it∈fp
 obj:∀i h,tn i h->∀b∈fp,∃o,cJ! b/\∀v,h5!≠.cell v
 keep:∀i h h',tn i h->(∀b∈fp,∀o,cJ! b->dC! b)->tn i h'
 item:∀(X:Cx),aO!=P->X.w=w->X.K=K->bW!->∀(i:Nat)(ae:List (Addr×Obj))(s:Shared)(O:St)(H:Hp)(E:Value->Shared->Prop),L!->(∀b∈fp,zcM X ae H b)->tn i I!->J.go i H-> gn! P w X.A (pf! kl!) (λr s1=>∃u,r=b! u/\ gn! P w X.A (letOwnedTupleGo tg kl! u) (λ_ s2=>∃x H',cQ! H' s2/\wV x u/\J.yld i H x H'/\tn (i+1) s2.heap/\∀b∈fp,ga! b) E s1) E s
 done:∀(X:Cx),aO!=P->X.w=w->X.K=K->bW!->∀(i:Nat)(ae:List (Addr×Obj))(s:Shared)(O:St)(H:Hp)(E:Value->Shared->Prop),L!->(∀b∈fp,zcM X ae H b)->tn i I!->J.stop i H-> gn! P w X.A (pf! kl!) (λr s1=>r=a!/\lI! s1) E s
 self:∀(A:Around)(i:Nat)(s:Shared)(Q:Value->Shared->Prop)(E:Value->Shared->Prop),tn i I!->Q kl! s->gn! P w A (pyIter kl!) Q E s
abbrev TI:=St->Hp->(It->cz!)->k!
def PIE(X:Cx)(ae:dh!)(O:St)(tg:Expr)(R:It->cz!)(eN:Value)(s2:Shared):k!:= ∃(it:Addr)(fp:List Addr)(tn:Nat->Heap->Prop)(J:It)(H':Hp),eN=kl!/\cQ! H' s2/\zkf aO! X.w X.K tg J fp it tn/\tn 0 s2.heap/\(∀b∈fp,zcM X ae H' b)/\R J H'
def PI(X:Cx)(tg iter:Expr)(wi:TI):k!:= ∀(ae:List (Addr×Obj))(s:Shared)(O:St)(H:Hp)(R:It->Hp->Prop),L!->wi O H R-> bO! (hk! h6!) (λv s1=>bO! (pyIter v) (PIE X ae O tg R) s1) s
theorem zjJ            (ho:dp! it)(hc:gk!=av! n)(hd:h5!=eJ! vs) (hn:qj! [gH!,iA!,"dict_itemiterator","dict_reverseitemiterator","odict_iterator","itertools.zip_longest","itertools.pairwise"] n=t!)(hQ:Q () s):fJ! M A (letOwnedTupleGo tg kl! u) Q E:=by cases tg<;>first
    | exact _m hQ | (cases u<;>first
        | exact _m hQ
        | (refine _a (wpAny_load ho ?_);rw[hc,hd];show fJ! M A (aF! (qj! [gH!,iA!,"dict_itemiterator","dict_reverseitemiterator","odict_iterator","itertools.zip_longest","itertools.pairwise"] n&&vs[0]? == b! (rawInt _)) _ _) Q E;rw[_o (by intro h;rw[hn]at h;cases h)];exact _m hQ))
noncomputable def Itl(K:W.Frag)(a:Addr):It:= ⟨λi H=>∃xs x,SqL K H a xs/\am! xs x,λi H x H'=>H'=H/\∀xs,SqL K H a xs->am! xs x,λi H=>∃xs,SqL K H a xs/\w!<=i⟩
noncomputable def Itt(K:W.Frag)(a:Addr):It:= ⟨λi H=>∃xs x,eH! K a xs/\am! xs x,λi H x H'=>H'=H/\∀xs,eH! K a xs->am! xs x,λi H=>∃xs,eH! K a xs/\w!<=i⟩
noncomputable def Itr(lo:Int)(n:Nat):It:=⟨λi _=>i<n,λi H x H'=>H'=H/\x=c! (lo+i),λi _=>n<=i⟩
theorem zhW{K:W.Frag} (a it:Addr):zkf P w K tg (Itl K a) [it] it (λi h=>h.IsListIter it a i) where
 mem:=by simp
 obj:=λi h st b hb=>by
  have e:b=it:=by simpa using hb
  subst e;obtain⟨o,e,c,d⟩:=st;exact cy! e (λv z=>by rw[d]at z;cases z)
 keep:=λi h h' st k=>st.at λo e=>k it (by simp) o e;item:=by
  intro X hP hw hK hc i ae s O H E I hf st hg;subst hP hw hK;obtain⟨xs,x,hq,hx⟩:=hg;obtain⟨af,rv,p,hz⟩:=lU!;obtain⟨u,hu,ru⟩:=rv.get hx;obtain⟨f0,f1,f2,f3,f4,f5⟩:=hf it (by simp);refine wpAny_pyNext_list_item st p.isList (by simpa using hu) λh' ay sb=>?_;obtain⟨o,e,c,d⟩:=id ay;exact aB! u (zjJ e c d (by decide) ⟨x,H,(I.turned (t':=s.toks) (kA! (bb! (sb.2 b hb) e)) f0 f1 f3 f4 f5),ru,fc! (λys hy=>by rw[I.list_inj hy hq];exact hx),ay,cr! (hf b hb).1⟩)
 done:=by
  intro X hP hw hK hc i ae s O H E I hf st hg;subst hP hw hK;obtain⟨xs,hq,hx⟩:=hg;obtain⟨af,rv,p,hz⟩:=lU!;obtain⟨f0,f1,f2,f3,f4,f5⟩:=hf it (by simp);have hl:=rv.length;exact wpAny_pyNext_list_end hl! st p.isList (by simp;lia) λh' eb=>fc! (I.turned (kA! (eb b o hb e)) f0 f1 f3 f4 f5)
 self:=λ_ _ _ _ _ st h=>wpAny_pyIter_listiter st h
theorem zg8{K:W.Frag} (a it:Addr):zkf P w K tg (Itt K a) [it] it (λi h=>h.IsTupleIter it a i) where
 mem:=by simp
 obj:=λi h st b hb=>by
  have e:b=it:=by simpa using hb
  subst e;obtain⟨o,e,c,d⟩:=st;exact cy! e (λv z=>by rw[d]at z;cases z)
 keep:=λi h h' st k=>st.at λo e=>k it (by simp) o e;item:=by
  intro X hP hw hK hc i ae s O H E I hf st hg;subst hP hw hK;obtain⟨xs,x,hq,hx⟩:=hg;obtain⟨af,rv,p,hz⟩:=nx!;obtain⟨u,hu,ru⟩:=rv.get hx;obtain⟨f0,f1,f2,f3,f4,f5⟩:=hf it (by simp);refine wpAny_pyNext_tuple_item st (p) (by simpa using hu) λh' ay sb=>?_;obtain⟨o,e,c,d⟩:=id ay;exact aB! u (zjJ e c d (by decide) ⟨x,H,(I.turned (t':=s.toks) (kA! (bb! (sb.2 b hb) e)) f0 f1 f3 f4 f5),ru,fc! (λys hy=>by rw[I.tuple_inj hy hq];exact hx),ay,cr! (hf b hb).1⟩)
 done:=by
  intro X hP hw hK hc i ae s O H E I hf st hg;subst hP hw hK;obtain⟨xs,hq,hx⟩:=hg;obtain⟨af,rv,p,hz⟩:=nx!;obtain⟨f0,f1,f2,f3,f4,f5⟩:=hf it (by simp);have hl:=rv.length;exact wpAny_pyNext_tuple_end hl! st (p) (by simp;lia) λh' eb=>fc! (I.turned (kA! (eb b o hb e)) f0 f1 f3 f4 f5)
 self:=λ_ _ _ _ _ st h=>wpAny_pyIter_tupleiter st h
theorem zfK{K:W.Frag} (it:Addr) (lo:Int) (n:Nat):zkf P w K tg (Itr lo n) [it] it (λi h=>IsRangeIter h it (lo+ez! i*1) (j! n-ez! i) 1) where
 mem:=by simp
 obj:=λi h st b hb=>by
  have e:b=it:=by simpa using hb
  subst e;exact bM! st (λv z=>by cases z)
 keep:=λi h h' st k=>k it (by simp) _ st;item:=by
  intro X hP hw hK hc i ae s O H E I hf st hg;subst hP hw hK;obtain⟨f0,f1,f2,f3,f4,f5⟩:=hf it (by simp);refine (Walks.range (prog:=X.prog) (w:=X.w) hl! it lo 1 n).item i s _ _ hg st λv h' tk hv ay kk=>?_;obtain⟨t,rfl⟩:=hv;have I1:lI! ({s with heap:=h',toks:=tk}):=I.turned (kA! (kk b o (by simpa using hb) e)) f0 f1 f3 f4 f5;refine aB! _ (zjJ ay rfl rfl (by decide) ⟨c! (lo+i),H,I1,aw! t ?_,cf! rfl,ay,cr! (hf b hb).1⟩);rw[Int.mul_one]
 done:=by
  intro X hP hw hK hc i ae s O H E I hf st hg;obtain⟨f0,f1,f2,f3,f4,f5⟩:=hf it (by simp);exact wpAny_pyNext_range_end hl! st (by have:n<=i:=hg;lia) λh' eb=>fc! (I.turned (kA! (eb b o hb e)) f0 f1 f3 f4 f5)
 self:=λ_ _ _ _ _ st h=>wpAny_pyIter_rangeiter st h
section
variable {X:Cx}{tg:Expr}
theorem zed{ae:dh!}{O:St}{H:Hp}{s:Shared}{R:It->cz!}{E:bX!}{lo hi:Int}{t u v:Tok}{tk:Nat}(I:L!)(h1:-(2 ^ 62)<=lo)(h2:lo<2 ^ 62)(h3:-(2 ^ 62)<=hi)(h4:hi<2 ^ 62) (q:R (Itr lo (hi-lo).toNat) H):lK! (pyIter fZ!) (PIE X ae O tg R) E ({s with heap:=h7! ({cls:=lP!,data:=eJ! #[bS! lo,bx! hi u,bx! 1 v]}),toks:=tk}):=by
 refine wpAny_pyIter_range (IsRange.new ..) (small_one h1 h2 h3 h4) ?_;have I1:lI! ({s with heap:=h7! ({cls:=lP!,data:=eJ! #[bS! lo,bx! hi u,bx! 1 v]}),toks:=tk}):=mc! (lW! _ e);refine⟨eg! (h7! ({cls:=lP!,data:=eJ! #[bS! lo,bx! hi u,bx! 1 v]})),[eg! (h7! ({cls:=lP!,data:=eJ! #[bS! lo,bx! hi u,bx! 1 v]}))],_,_,H,rfl, n5! (lW! _ e),zfK _ lo (hi-lo).toNat,?_,cr! ?_,q⟩
 ·have e1:lo+ez! 0*1=lo:=by simp
  rw[e1,(show (fy! (hi-lo):Nat)-ez! 0=Builtin.Range.rangeSize lo hi 1 from by rw[rangeSize_one];split<;>lia)];exact g9!
 ·have e:b=eg! (h7! ({cls:=lP!,data:=eJ! #[bS! lo,bx! hi u,bx! 1 v]})):=by simpa using hb
  subst e;exact rT! ak! ak!
def zsj(ta:TA):TI:=λO H R=>ta O H λvs H1=>∃j:Int,vs=[c! j]/\-(2 ^ 62)<=j/\j<2 ^ 62/\R (Itr 0 kB!) H1
def ztd(ta:TA):TI:=λO H R=>ta O H λvs H1=>∃i j:Int,vs=cU! i j/\(-(2 ^ 62)<=i/\i<2 ^ 62/\-(2 ^ 62)<=j/\j<2 ^ 62)/\R (Itr i (j-i).toNat) H1
theorem zj2(hg:o2!)(hm:dM! ft!)(ha:PA X [a] ta)(hs:y! (au! [a]=[d1! a])):PI X tg (do! ft! p [a]) (zsj ta):=by
 refine λae s O H R I h=>Call_ (z2b I hg hm boot_range (_ab (thn (ha pos ae s O H _ I h) λus s1 ⟨vs,H1,I1,r1,q1⟩=>?_) hs rfl));obtain⟨j,e,q1,q2,q⟩:=q1;subst e;cases r1 with | cons r rr=>
  cases rr;obtain⟨t,rfl⟩:=r;exact call_range_1 (zed I1 (by lia) (by lia) q1 q2 (by simpa using q))
theorem zhq{p pos:Pos}(hg:o2!)(hm:dM! ft!)(ha:PA X [a,b] ta)(hs:y! (au! [a,b]=[d1! a,d1! b]))(bT:y! (au! [b]=[d1! b])): PI X tg (do! ft! p [a,b]) (ztd ta):=by
 refine λae s O H R I h=>Call_ (z2b I hg hm boot_range (_ab (thn (ha pos ae s O H _ I h) λus s1 ⟨vs,H1,I1,r1,q1⟩=>?_) (by rw[hs,bT]) (by rw[bT];rfl)));obtain⟨i,j,e,⟨q1,q2,q3,q4⟩,q⟩:=q1;subst e;cases r1 with | cons r rr=> cases rr with | cons r' rr=>
   cases rr;obtain⟨t,rfl⟩:=r;obtain⟨t',rfl⟩:=r';exact call_range_2 (zed I1 q1 q2 q3 q4 q)
def zwc(wi:TI)(g:TG)(tb:TS):TS:=lp! (wi O H λJ H1=>∃W:Nat->Nat->St->Hp->Prop,(∃m,W 0 m O H1)/\∀i m O H,W i m O H-> (J.stop i H/\D.nx O H)\/(J.go i H/\∃N:St->Hp->Prop,(∀O' H',N O' H'->∃m',m'<m/\W (i+1) m' O' H')/\∀x H',J.yld i H x H'->g x O H' λO2 H2=>tb {D with nx:=N,ct:=N,bk:=D.nx} O2 H2))
noncomputable def zcu(fp:bi!)(h:Heap):dh!:=fp.filterMap λb=>(p4! b).map λo=>(b,o)
theorem kS(hb:b∈fp)(e:cJ! b):(b,o)∈zcu fp h:=_cC.mpr ⟨b,hb,by rw[e];rfl⟩
theorem zhE(hp:p∈zcu fp h):p.1∈fp/\eR! p.1 p.2:=by
 obtain⟨b,hb,e⟩:=_cC.mp hp;cases q:p4! b with
 | none=>rw[q]at e;cases e | some o=>
  rw[q]at e;have e' := _J e;subst e';exact aw! hb q
theorem Inv.pinned{O:St} (I:L!)(hf:∀b∈fp,zcM X ae H b)(ho:∀b∈fp,∃o,dp! b/\∀v,h5!≠.cell v):Inv X (ae++zcu fp I!) O H s:= I.pins_of (bs! (mR! hp (λz=>k8! (_N _ z)) (λz=>by
  obtain⟨hb,e⟩:=zhE z;obtain⟨f0,f1,f2,_⟩:=hf p.1 hb;obtain⟨o,e',d⟩:=ho p.1 hb;rw[e]at e';cases e';exact⟨e,f0,f1,f2,d⟩)))
theorem Inv.unpinned{O:St} (I:Inv X (ae++pl) O H s):L!:=I.pins_of (bs! (k8! (_N _ (_ba _ hp))))
theorem zqk(hp:PassesOwn (oQ! X.w) X.A aT! X.xe)(hc:bW!)(hi:PI X tg h6! wi)(hg:PG X tg g)(hb:PSs X dF! tb) (hs:lb! (k4! x=la!)):PS X (.For tg h6! dF! [] pos) (zwc wi g tb):=by
 refine ne! (wpAny_For (thn (hi ae s O H _ I h) λv s1 h1=>thn h1 λeN s2 h2=>?_) hs);obtain⟨it,fp,tn,J,H2,e,I2,T,bn,f2,W,⟨m0,w0⟩,turn⟩:=h2;subst e;have bC:∀{H':Hp},(∀b∈fp,ga! b)->∀b∈fp,zcM X ae H' b:=λhn b hb=>⟨hn b hb,(f2 b hb).2⟩;refine codeAny_forLoop_any (λn s'=>∃i O' H',kN! O' H' s'/\tn i gK!/\(∀b∈fp,ga! b)/\W i n O' H') ?_ m0 ⟨0,O,H2,I2,bn,cr! (f2 b hb).1,w0⟩;rintro n s3 ⟨i,O3,H3,I3,cC,j0,w3⟩;rcases turn i n O3 H3 w3 with⟨stop,qn⟩ | ⟨go,N,hN,step⟩
 ·refine _a7 hp (thn (T.done X rfl rfl rfl hc i ae s3 O3 H3 X.xe I3 (bC j0) cC stop) λr s4 ⟨hr,I4⟩=>?_);subst hr;exact _cm ⟨O3,H3,I4,qn⟩
 ·refine _a7 hp (thn (T.item X rfl rfl rfl hc i ae s3 O3 H3 X.xe I3 (bC j0) cC go) λr s4 ⟨u,hr,h4⟩=>?_);subst hr;refine _a7 hp (thn h4 λ_ s5 ⟨x,H5,I5,r5,y5,gO,mR⟩=>(_a7 hp (thn (hg _ s5 O3 H5 x u _ (I5.pinned (bC mR) (T.obj _ _ gO)) r5 (step x H5 y5)) λ_ s6 ⟨O6,H6,I6,q6⟩=>?_)));refine _a7 hp (thn (hb _ s6 O6 H6 _ I6 q6) λf s7 q7=>?_);have again:∀{O7:St}{H7:Hp},Inv X (ae++zcu fp s5.heap) O7 H7 s7->N O7 H7->∃m,m<n/\∃i O' H',kN! O' H' s7/\tn i s7.heap/\(∀b∈fp,ga! b)/\W i m O' H':=λ{O7 H7} I7 n7=>by
   obtain⟨m',hm,w7⟩:=hN O7 H7 n7;refine⟨m',hm,i+1,O7,H7,I7.unpinned,T.keep _ _ _ gO (pg! (I7.pin (b,o) (_N _ (_N _ (kS hb e)))).1),cr! ?_,w7⟩;obtain⟨o,e,d⟩:=T.obj _ _ gO b hb;exact (I7.pin (b,o) (_N _ (_N _ (kS hb e)))).2.1
  cases f with
  | next=>obtain⟨O7,H7,I7,n7⟩:=q7;exact again I7 n7 | cont=>obtain⟨O7,H7,I7,n7⟩:=q7;exact again I7 n7 | brk=>obtain⟨O7,H7,I7,q7⟩:=q7;exact⟨O7,H7,I7.unpinned,q7⟩ | ret v=>obtain⟨x7,O7,H7,I7,r7,q7⟩:=q7;exact⟨x7,O7,H7,I7.unpinned,r7,q7⟩
end
abbrev R2:=V->V->Hp->eE!
def OpR(X:Cx)(f:dX!->dX!->Sem dX!)(r:R2):k!:= ∀(ae:List (Addr×Obj))(s:Shared)(O:St)(H:Hp)(x y:V)(v u:Value)(Q:VK),L!->wV x v->wV y u->r x y H Q-> bO! (f v u) (EP X ae O Q) s
def UnR(X:Cx)(f:dX!->Sem dX!)(r:V->Hp->eE!):k!:= ∀(ae:List (Addr×Obj))(s:Shared)(O:St)(H:Hp)(x:V)(v:Value)(Q:VK),L!->wV x v->r x H Q-> bO! (f v) (EP X ae O Q) s
def wx(X:Cx)(f:Value)(r:aM!->Hp->eE!):k!:= ∀(ae:List (Addr×Obj))(s:Shared)(O:St)(H:Hp)(xs:List V)(us:List Value)(Q:VK),L!->i5!->r xs H Q-> bO! (call f us) (EP X ae O Q) s
def tOp(r:R2)(ta tb:TE):TE:=gL! (ta O H (hE! (tb O H1 λy H2=>r x y H2 Q)))
def tUn(r:V->Hp->eE!)(ta:TE):TE:=gL! (ta O H (hE! (r x H1 Q)))
def rI(C:Int->Int->k!)(g:Int->Int->V):R2:=hG! (∃i j,x=Y!/\y=c! j/\C i j/\Q (g i j) H)
def rI0(g:Int->Int->V):R2:=hG! (∃i j,x=Y!/\y=c! j/\Q (g i j) H)
def rU(g:Int->V):V->Hp->eE!:=λx H Q=>∃i,x=Y!/\Q (g i) H
section
variable {X:Cx}{a b c:Expr}{ta tb tc:TE}{pos:Pos}
theorem zuj(ha:V! a ta)(hb:V! b tb) {O:St} {R:V->V->cz!}(I:L!) (h:ta O H (hE! (tb O H1 λy H2=>R x y H2))) {f:dX!->dX!->Sem dX!} (hf:∀v u s2 x y H2,cQ! H2 s2->wV x v->wV y u->R x y H2->bO! (f v u) Q s2): bO! (hk! a) (λv s₁=>bO! (hk! b) (λu s₂=>bO! (f v u) Q ma!) jk!) s:=by exact thn (ha ae s O H _ I h) λv s1 ⟨x,H1,I1,r1,q1⟩=>(thn (hb ae s1 O H1 _ I1 q1) λu s2 ⟨y,H2,I2,r2,q2⟩=>(hf v u s2 x y H2 I2 r1 r2 q2))
theorem zrZ(ho:gB! op r)(ha:V! a ta)(hb:V! b tb):V! (.BinOp a op b pos) (tOp r ta tb):=iF! (wpAny_BinOp (zuj ha hb I h λv u s2 x y H2 I2 rx ry q=>ho ae s2 O H2 x y v u Q I2 rx ry q))
theorem zqZ(ho:UnR X (unaryOp op) r)(ha:V! a ta):V! (.UnaryOp op a pos) (tUn r ta):=iF! (UnaryOp_ (thn (ha ae s O H _ I h) λv s1 ⟨x,H1,I1,r1,q1⟩=>ho ae s1 O H1 x v Q I1 r1 q1))
theorem opI{g:Int->Int->Int} (rule:∀(i j:Int) (t u:Tok) (s:Shared) (Q:Value->Shared->Prop) (E:Value->Shared->Prop),C i j->Q (bx! (g i j) fU!) {s with toks:=fU!+1}->lK! (f (bS! i) (bx! j u)) Q E s): OpR X f (rI C (mJ! (g i j))):=by
 intro ae s O H x y v u Q I rx ry h;obtain⟨i,j,rfl,rfl,hc,q⟩:=h;obtain⟨t,rfl⟩:=rx;obtain⟨t',rfl⟩:=ry;exact rule i j t t' s _ _ hc ⟨c! (g i j),H,im!,cf! _,q⟩
theorem zva{g:Int->Int->Int} (rule:∀(i j:Int) (t u:Tok) (s:Shared) (Q:Value->Shared->Prop) (E:Value->Shared->Prop),Q (bx! (g i j) fU!) {s with toks:=fU!+1}->lK! (f (bS! i) (bx! j u)) Q E s): OpR X f (rI0 (mJ! (g i j))):=by
 intro ae s O H x y v u Q I rx ry h;obtain⟨i,j,rfl,rfl,q⟩:=h;obtain⟨t,rfl⟩:=rx;obtain⟨t',rfl⟩:=ry;exact rule i j t t' s _ _ ⟨c! (g i j),H,im!,cf! _,q⟩
theorem zrU{g:Int->eG! Int} (rule:∀(i j:Int)(t u:Tok)(s:Shared)(Q:Value->Shared->Prop)(E:Value->Shared->Prop),Q (.bool (g i j)) s->lK! (f (bS! i) (bx! j u)) Q E s): OpR X f (rI0 λi j=>.bl (g i j)):=by
 intro ae s O H x y v u Q I rx ry h;obtain⟨i,j,rfl,rfl,q⟩:=h;obtain⟨t,rfl⟩:=rx;obtain⟨t',rfl⟩:=ry;exact rule i j t t' s _ _ (bo! (.bl (g i j)) H I q)
def zvI(i j:Int):k!:=0<=j/\j<=1000000/\eL!<2 ^ 64
theorem zqj:gB! .Add (rI0 (mJ! (i+j))):=zva (qk! (add_int q))
theorem zpn:gB! .Sub (rI0 (mJ! (i-j))):=zva (qk! (sub_int q))
theorem zpy:gB! .Mod (rI (λ_ j=>0<j) (mJ! (i % j))):=opI λi j _ _ _ _ _ hc q=>mod_int' (by lia) (by rw[Int.fmod_eq_emod_of_nonneg i (by lia)];exact q)
theorem zr0:gB! .Pow (rI zvI (mJ! (i ^ kB!))):=opI λ_ _ _ _ _ _ _ hc q=>pow_int_small hc.1 hc.2.1 hc.2.2 q
theorem unI{g:Int->Int} (rule:∀(i:Int) (t:Tok) (s:Shared) (Q:Value->Shared->Prop) (E:Value->Shared->Prop),Q (bx! (g i) fU!) {s with toks:=fU!+1}->lK! (f (bS! i)) Q E s): UnR X f (rU λi=>c! (g i)):=by
 intro ae s O H x v Q I rx h;obtain⟨i,rfl,q⟩:=h;obtain⟨t,rfl⟩:=rx;exact rule i t s _ _ ⟨c! (g i),H,im!,cf! _,q⟩
theorem zlS:UnR X (unaryOp .USub) (rU λi=>c! (-i)):=unI λ_ _ _ _ _ q=>neg_int q
end
section
variable {X:Cx}{a b c:Expr}{ta tb tc:TE}{pos:Pos}
theorem zpU{O:St} (I:L!)(q:Q (.bl k) H)(e:k=k'):EP X ae O Q (.bool k') s:=by
 subst e;exact bo! (.bl k) H I q
theorem zuc:dV! .Lt (rI0 λi j=>.bl (dO! i j)):=zrU (qk! (lt_int q))
theorem zs4:dV! .LtE (rI0 λi j=>.bl (jP! i j)):=zrU (qk! (le_int q))
theorem zt7:dV! .Gt (rI0 λi j=>.bl (dO! j i)):=zrU (qk! (gt_int q))
theorem ztt:dV! .GtE (rI0 λi j=>.bl (jP! j i)):=zrU (qk! (ge_int q))
theorem zpb:dV! .Is (hG! (y=an!/\Q (.bl (fh! x an!)) H)):=by
 intro ae s O H x y v u Q I rx ry h;obtain⟨rfl,q⟩:=h;cases ry;refine is_none_gen (zpU I q ?_);cases x<;>(obtain⟨t,rfl⟩:=rx;rfl)
theorem OpR.or(h:OpR X f r)(h':OpR X f r'):OpR X f (hG! (r x y H Q\/r' x y H Q)):=by
 intro ae s O H x y v u Q I rx ry q;rcases q with q | q;·exact h ae s O H x y v u Q I rx ry q
 ·exact h' ae s O H x y v u Q I rx ry q
theorem zmv(b:Expr) (h:j1! (op≠.In))(h2:j1! (op≠.NotIn)):pS! b=t!:=by
 have e1:(op==CmpOp.In)=t!:=by cases op<;>first | rfl | exact gt! h
 have e2:(op==CmpOp.NotIn)=t!:=by cases op<;>first | rfl | exact gt! h2
 cases b<;>simp[behindInMarks,e1,e2]
theorem ziy(ho:dV! op r)(ha:V! a ta)(hb:V! b tb)(hm:pS! b=t!):V! (.Compare a [op] [b] pos) (tOp r ta tb):=iF! (wpAny_Compare1 (zuj ha hb I h λv u s2 x y H2 I2 rx ry q=>ho ae s2 O H2 x y v u Q I2 rx ry q) hm)
def zqa(t:TE):TT:=k1! O H (λx H'=>∃k,x=.bl k/\Q k H')
theorem znr(ho:dV! op r)(ha:V! a ta)(hb:V! b tb)(hm:pS! b=t!):PT X (.Compare a [op] [b] pos) (zqa (tOp r ta tb)):=by
 refine iF! (wpAny_isTrue_Compare1 (thn (ha ae s O H _ I h) λv s1 ⟨x,H1,I1,r1,q1⟩=>thn (hb ae s1 O H1 _ I1 q1) λu s2 ⟨y,H2,I2,r2,q2⟩=> thn (ho ae s2 O H2 x y v u _ I2 r1 r2 q2) λc s3 ⟨z,H3,I3,r3,k,e,q3⟩=>?_) hm);subst e;cases r3;exact _aV ⟨H3,I3,q3⟩
def zlI(r r':R2)(ta tb tc:TE):TE:=gL! (ta O H (hE! (tb O H1 λy H2=>r x y H2 λz H3=>∃k,z=.bl k/\ (aF! k (tc O H3 λw' H4=>r' y w' H4 Q) (Q fC! H3)))))
theorem zkK(ho:dV! op r)(bY:dV! df r')(ha:V! a ta)(hb:V! b tb)(hc:V! c tc) (hm:autoParam (lastMarks [op,df] [b,c]=t!) aWu):V! (.Compare a [op,df] [b,c] pos) (zlI r r' ta tb tc):=by
 refine iF! (Compare_chain (thn (ha ae s O H _ I h) λv s1 ⟨x,H1,I1,r1,q1⟩=>chain_link (thn (hb ae s1 O H1 _ I1 q1) λu s2 ⟨y,H2,I2,r2,q2⟩=> thn (ho ae s2 O H2 x y v u _ I2 r1 r2 q2) λd s3 ⟨z,H3,I3,r3,k,e,q3⟩=>?_)) hm);subst e;cases r3;refine _aV ?_;cases k with
 | false=>exact ite_ff (bo! fC! H3 I3 q3) | true=>exact ite_tt (chain_last (thn (hc ae s3 O H3 _ I3 q3) λw' s4 ⟨z',H4,I4,r4,q4⟩=>bY ae s4 O H4 y z' u w' Q I4 r2 r4 q4))
theorem zev:ez! aS!<2 ^ 63:=by decide
theorem zfF:gB! .Add (hG! (∃i j,x=aq! i/\y=aq! j/\i.length+j.length<=aS!/\Q (aq! (i++j)) H)):=by
 intro ae s O H x y v u Q I rx ry h;obtain⟨i,j,rfl,rfl,hz,q⟩:=h;obtain⟨t,rfl⟩:=rx;obtain⟨t',rfl⟩:=ry;exact add_str (λt' tk=>⟨aq! (i++j),H,im!,cf! _,q⟩) hz
theorem vals1(r:kh! [x]):∃u,us=[u]/\wV x u:=by cases r with | cons r1 r2=>cases r2;exact aB! _ r1
theorem vals2(r:kh! [x,y]):∃u w',us=[u,w']/\wV x u/\wV y w':=by cases r with | cons r1 r2=> cases r2 with | cons r3 r4=>cases r4;exact gW! _ _ r1 r3
theorem zk5:lX! X "abs" (∃i,xs=[Y!]/\Q (c! (al! (i<0) (-i) i)) H):=by
 intro ae s O H xs us Q I r h;obtain⟨i,rfl,q⟩:=h;obtain⟨u,rfl,t,rfl⟩:=k2!;exact call_abs_int λu tk=>⟨c! (al! (i<0) (-i) i),H,im!,cf! _,q⟩
theorem zhX(hc:bW!):lX! X nH! (∃i j,xs=cU! i j/\Q (c! (al! (j > i) j i)) H):=by
 intro ae s O H xs us Q I r h;obtain⟨i,j,rfl,q⟩:=h;obtain⟨u,w',rfl,⟨t,rfl⟩,⟨t',rfl⟩⟩:=vals2 r;refine max_two_ints hl! λh' tk k=>⟨_,H,mc! k,?_,q⟩;by_cases hj:j > i;·rw[_h hj,_h hj];exact cf! _
 ·rw[_o hj,_o hj];exact cf! _
theorem zgM(hc:bW!):lX! X nI! (∃i j,xs=cU! i j/\Q (c! (al! (j<i) j i)) H):=by
 intro ae s O H xs us Q I r h;obtain⟨i,j,rfl,q⟩:=h;obtain⟨u,w',rfl,⟨t,rfl⟩,⟨t',rfl⟩⟩:=vals2 r;refine min_two_ints hl! λh' tk k=>⟨_,H,mc! k,?_,q⟩;by_cases hj:j<i;·rw[_h hj,_h hj];exact cf! _
 ·rw[_o hj,_o hj];exact cf! _
theorem zi6:wx X (av! et!) (λxs H Q=>(∃i,xs=[Y!]/\Q Y! H)\/∃k,xs=[.bl k]/\Q (c! (al! k 1 0)) H):=by
 intro ae s O H xs us Q I r h;rcases h with⟨i,rfl,q⟩ | ⟨k,rfl,q⟩
 ·obtain⟨u,rfl,t,rfl⟩:=k2!;exact call_int_int ⟨Y!,H,I,cf! _,q⟩
 ·obtain⟨u,rfl,r1⟩:=k2!;cases r1;exact call_int_bool ⟨c! (al! k 1 0),H,im!,cf! _,q⟩
end
structure zuF(h:Heap)(x dx C:Addr)(mA:Str->aL!):k! where
 obj:eR! x (W.instObj C dx)
 ns:h.Ns1 dx mA
 ne:dx≠x
theorem zit{h:Heap} (n:h.Ns1 dx mA):∃od,eR! dx od/\∀name,W.lookIn iG! od=b! (mA iG!):=by
 obtain⟨o,es,ep,ho,hd,hk,_,hm⟩:=n;refine cy! ho (λname=>?_);have e:=hm iG!;unfold nsFind findBy at e;rw[<- Array.find?_toList]at e;unfold W.lookIn;rw[hd];dsimp only;split
 ·rename_i y q;rw[q]at e;exact _aM some e
 ·rename_i q;rw[q]at e
  rw[_o (by rw[(show es.toList.any (·.refKey)=t! from by
   rw[List.any_eq_false];intro y hy;obtain⟨z,t,gP⟩:=hk y (Array.mem_toList_iff.mp hy);simp[DictEntry.refKey,gP])];exact _ay)];exact _aM some e
theorem zuF.look(I:zuF h x dx C mA):∃od,W.InstAt h x (W.instObj C dx) C (b! od)/\∀name,W.lookIn iG! od=b! (mA iG!):= let ⟨od,ho,hl⟩:=zit I.ns;⟨od,fH! I.obj rfl ho,hl⟩
section
variable {P:Program}{w:World}{H H':Hp}{h h':Heap}{a C dx:Addr}{fs dW:dL! V}
theorem zhP(hok:HOk P w H h)(e:cq! (.ins C dx fs)):∃mA,zuF h a dx C mA/\(∀f,zuM (fs.lookup f) (mA f))/\PySem.Within mA (fs.map (·.1))/\dn! fs.length/\H dx=b! (.own a):=by
 obtain⟨d,z,ne,ob,mA,n,r,q⟩:=((hok a _ e));exact⟨mA,aN! ob n ne,r,q,z,d⟩
end
structure Cls(K:W.Frag)(C:Addr):k! where
 pg:W.plainGet K C Str.empty=d!
 hd:W.hasDictIn K C=d!
 po:W.plainOver K C=d!
 sa:W.findIn K aR! "__setattr__"=b! (hV! "object.__setattr__")
theorem Cls.get{K:W.Frag} (c:Cls K C)(f:Str):W.plainGet K C f=d!:=c.pg
section
variable {X:Cx}{ae:dh!}{O:St}{H:Hp}{s:Shared}{A:Around}{E:bX!}{Q:bX!}{c:Value}{b:Bool}
inductive zcZ(K:W.Frag)(H:Hp):V->dX!->k! where | non:zcZ K H an! (av! "NoneType") | bl (x:Bool):zcZ K H (.bl x) (av! fS!) | int (i:Int):zcZ K H Y! (av! et!) | str (x:Str):zcZ K H bY! (av! gj!) | flt (x:UInt64):zcZ K H (.flt x) (av! "float") | lst {a:Addr}{xs:aM!}(e:cq! bH!):zcZ K H ag! dd! | frz {a:Addr}{o:Obj}{xs:aM!}(e:cq! (d7! bH!)):zcZ K H ag! dd! | tup {a:Addr}{xs:aM!}(e:cq! ap!):zcZ K H ag! dK! | dK {a:Addr}{ah:gr! Key V}(e:cq! g2!):zcZ K H ag! j7! | dT {a:Addr}{ah:gr! (ee! Key) V}(e:cq! le!):zcZ K H ag! j7! | ins {a C dx:Addr}{fs:dL! V}(e:cq! (.ins C dx fs))(cl:Cls K C)(ha:W.findIn K aR! pb!=b! (b! oB!)) (hn:W.specialIn K oB! "__get__"=b! (hV! "getset_descriptor.__get__"))(gc:W.takesIn K oB!=b! d!) (hm:W.mroIn K C (av! "object")=b! d!):zcZ K H ag! aR!
theorem zhw(I:L!) (rx:wV x u) (ty:zcZ X.K H x t) (e:m1! X.K t c=b! b) (h:∀tk,Q k7! {s with toks:=tk}): gn! aO! X.w A (p0! gI! [u,c]) Q E s:=by cases ty with
 | non=>cases (rx);exact k9! W.kitx_none lq! e (λz=>nomatch z) h | bl y=>cases (rx);exact k9! W.kitx_bool lq! e (λz=>nomatch z) h | int i=>obtain⟨t,q⟩:=(rx);cases q;exact k9! W.kitx_int lq! e (λz=>nomatch z) h | str y=>obtain⟨t,q⟩:=(rx);cases q;exact k9! W.kitx_str lq! e (λz=>nomatch z) h | flt y=>obtain⟨t,q⟩:=(rx);cases q;exact k9! W.kitx_float lq! e (λz=>nomatch z) h | @lst a xs ea=>
  cases (rx);obtain⟨_,_,n,_,h1⟩:=(gY! a ea);exact k9! W.kitx_list (ca! h1) e (λz=>nomatch z) h | @frz a ob xs ea=>
  cases (rx);obtain⟨_,_,_,n,_,h1⟩:=(gY! a ea);exact k9! W.kitx_list (ca! h1) e (λz=>nomatch z) h | @tup a xs ea=>
  cases (rx);obtain⟨_,_,_,p⟩:=(gY! a ea);obtain⟨o,h1,h2,_⟩:=p;exact k9! W.kitx_tuple (cy! h1 h2) e (λz=>nomatch z) h | @dK a ah ea=>
  cases (rx);obtain⟨_,_,vs,_,p⟩:=(gY! a ea);obtain⟨o,es,ep,h1,h2,_⟩:=p;exact k9! W.kitx_dict (cy! h1 h2.1) e (λz=>nomatch z) h | @dT a ah ea=>
  cases (rx);obtain⟨_,_,xs,_,o,es,ep,h1,h2,_⟩:=(gY! a ea);exact k9! W.kitx_dict (cy! h1 h2.1) e (λz=>nomatch z) h | @ins a C dx fs ea cl ha hn gc hm=>
  cases (rx);obtain⟨mA,Oo,_⟩:=zhP eK! ea;obtain⟨od,J,_⟩:=Oo.look;exact k9! (W.kitx_own (cl.get _) cl.hd ha hn gc hm) J e (λz=>nomatch z) h
end
structure z2z(k:Nat)(A:Around):k! where
 hd:nw!
 dp:ql!+3*k+5<recursionLimit
 un:ph!+16*k+200<ng!
 gd:A.guards=b! []
theorem z2z.mono(r:z2z k A)(h:j<=k):z2z j A:=⟨r.hd,by have:=r.dp;lia,by have:=r.un;lia,r.gd⟩
theorem z2z.deeper(r:z2z (k+1) A)(env:Env):z2z k (A.deeper env):= ⟨r.hd,by have:=r.dp;show ql!+1+3*k+5<_;lia,by have:=r.un;show ph!+3+16*k+200<_;lia,r.gd⟩
theorem z2z.depth(r:z2z k A):ql!<recursionLimit:=by have:=r.dp;lia
theorem z2z.units(r:z2z k A):ph!+64<ng!:=by have:=r.un;lia
def zv3:TA:=λ_ H Q=>Q [] H
def zsY(ta:TE)(tr:TA):TA:=gL! (ta O H (hE! (tr O H1 λxs H2=>Q (x::xs) H2)))
section
variable {X:Cx}{e:Expr}{es:aD!}{te:TE}{t:TA}{pos:Pos}
theorem z1b:PA X [] zv3:=λ_ _ _ _ H Q I h=>_cV ⟨[],H,I,cB!,h⟩
theorem va(ha:V! e te)(hr:PA X es t)(hs:y! (au! (e::es)=dW!::ir!)):PA X (e::es) (zsY te t):=by
 intro pos ae s O H Q I h;rw[hs];exact _cD (thn (ha ae s O H _ I h) λu s1 ⟨x,H1,I1,r1,q1⟩=>(thn (hr pos ae s1 O H1 _ I1 q1) λus s2 ⟨xs,H2,I2,r2,q2⟩=>⟨x::xs,H2,I2,eI! r1 r2,q2⟩))
def zvW(t:TA):TE:=k1! O H (λxs H1=>w!<=aS!/\∀p,H1 p=a!->Q cn! (upd H1 p ap!))
def zvv(t:TA):TE:=k1! O H (λxs H1=>w!<=aS!/\∀p,H1 p=a!->Q cn! (upd H1 p bH!))
theorem zlH(h:PA X es t):V! (hF! es x1 pos) (zvW t):=by
 refine λae s O H Q I hq=>wpAny_Tuple_spliced (thn (h pos ae s O H _ I hq) λus s1 ⟨xs,H1,I1,r,z,q⟩=>⟨by rw[<- r.length];exact z,?_⟩);exact⟨u! iH!,upd H1 iH! ap!,I1.laid (λb u e=>_g _ e) ak! ⟨z,us,r,⟨_,g9!,rfl,rfl,_,rfl⟩⟩,rfl,q _ (sL! ak!)⟩
theorem zmw(h:PA X es t):V! (.List es pos) (zvv t):=by
 refine λae s O H Q I hq=>wpAny_List_spliced (thn (h pos ae s O H _ I hq) λus s1 ⟨xs,H1,I1,r,z,q⟩=>⟨by rw[<- r.length];exact z,?_⟩);exact⟨u! iH!,upd H1 iH! bH!,I1.laid (λb u e=>_g _ e) ak! ⟨z,us,0,r,g9!⟩,rfl,q _ (sL! ak!)⟩
end
abbrev Sp:=aM!->Hp->VK->XK->k!
abbrev CXT:=mL!->Hp->nW!->XK->bX!
structure zrJ(P:Program)(w:World)(K:W.Frag)(mg:Str->aL!)(base:Heap)(A:Around)(outer:mL!)(s:Shared)(H:Hp):k! where
 frames:A.frames=b! as!
 mod:Mod K mg R!
 bs:bD! (base.get? b=b! o->dp! b/\e7!)
 bsz:base.objs.size<=ar!
 funs:s.heap.FunFrames R! as!
 frf:∀b∈mG!,e7!
 hok:HOk P w H I!
 bare:rG! s.gens
def CE(outer:mL!)(P:Program)(w:World)(H:Hp)(s:Shared)(Q:VK)(u:Value)(s':Shared):k!:= ∃v H',qe!=s.os/\rl!/\Un mG! [] H H' I! gK!/\HOk P w H' gK!/\wV v u/\Q v H'
def CR(CX:CXT)(outer:mL!)(P:Program)(w:World)(H:Hp)(s:Shared)(Q:VK)(E:XK)(r:Result)(s':Shared):k!:= match r with
 | .ok (.ret u)=>CE as! P w H s Q u s' | .ok _=>False | .error e=>CX as! H s E e s'
structure z9Z(P:Program)(w:World)(K:W.Frag)(mg:Str->aL!)(base:Heap)(CX:CXT)(k:Nat)(f:Addr)(fd:FuncData)(ps:ao!)(sp:Sp):k! where
 len:∀vs H Q E,sp vs H Q E->mw!
 run:∀(A:Around)(outer:List Env)(s:Shared)(H:Hp)(args:Args)(us:List Value)(vs:List V)(Q:VK)(E:XK),z2z k A->zrJ P w K mg R! A as! s H->qm! s fd jS! lV!->kh! vs->sp vs H Q E-> kC! (model P w) A (.call (u! f) jS!) (CR CX as! P w H s Q E) s
theorem z9Z.mono{P:Program}{w:World}{K:W.Frag}{mg:Str->aL!}{base:Heap}{CX:CXT}{j k:Nat}{f:Addr}{fd:FuncData}{ps:ao!}{sp:Sp}(F:z9Z P w K mg R! CX j f fd ps sp)(h:j<=k): z9Z P w K mg R! CX k f fd ps sp:=⟨F.len,λA outer s H args us vs Q E hr=>F.run A as! s H jS! us vs Q E (hr.mono h)⟩
theorem z9Z.imp{P:Program}{w:World}{K:W.Frag}{mg:Str->aL!}{base:Heap}{CX:CXT}{k:Nat}{f:Addr}{fd:FuncData}{ps:ao!}{sp j3:Sp}(F:z9Z P w K mg R! CX k f fd ps sp) (h:∀vs H Q E,j3 vs H Q E->sp vs H Q E):z9Z P w K mg R! CX k f fd ps j3:= ⟨λvs H Q E q=>F.len vs H Q E (h _ _ _ _ q),λA outer s H args us vs Q E hr he hb hv hs=>F.run A as! s H jS! us vs Q E hr he hb hv (h _ _ _ _ hs)⟩
section
variable {X:Cx}{ae:dh!}{O:St}{H:Hp}{s s':Shared}
theorem Inv.env0(I:L!):zrJ aO! X.w X.K fw! fa! X.A jh! s H:= ⟨I.ok.frames,I.ok.mod,I.bs,_Z I.ok.bsz I.sz,I.stack,I.stkFree,eK!,jj!⟩
theorem Inv.after(I:L!)(h:CE jh! aO! X.w H s Q u s'):EP X ae O Q u s':=by
 obtain⟨v,H',os,bare,un,hok,r,q⟩:=h;obtain⟨hh,g,d,t,mS⟩:=s';obtain rfl:mS=s.os:=os;exact⟨v,H',I.call un hok bare (λb z=>o7! (by simp)),r,q⟩
end
def znb(sp:Sp)(bL:aM!)(E:XK)(t:TA):TE:=k1! O H (λvs H1=>sp (vs++bL) H1 Q E)
def Binds(K:W.Frag)(fd:FuncData)(ps:ao!)(ds:c3!):k!:= ∀(s:Shared)(us:List Value),K.In I!->v! (us++ds)=a2!->qm! s fd (dN! us) (ps.zip (us++ds))
theorem Binds.all{K:W.Frag}{fd:FuncData}{ps:ao!}(h:∀us:List Value,na!=a2!->qn! fd (dN! us)=dY! lV!):km! K ps []:=λs us _ hl=>by
 rw[_aK]at hl ⊢;exact .of_eq (h us hl)
def Passes(CX:CXT)(X:Cx)(E:XK):k!:=∀(ae:List (Addr×Obj))(O:St)(H:Hp)(s:Shared)(e:Value)(s':Shared),L!->CX jh! H s E e s'->X.xe e s'
section
variable {X:Cx}{CX:CXT}{k:Nat}{f C:Addr}{fd:FuncData}{ps:ao!}{sp:Sp}{bL:aM!}{ds:c3!}{E:XK}{x m:Str}{p pos ap:Pos}{e o:Expr}{es:aD!}{ta:TE}{t:TA}
theorem zfp{O:St} (F:z9Z aO! X.w X.K fw! fa! CX k f fd ps sp)(hr:z2z k X.A)(hb:km! X.K ps ds)(hd:xw bL ds)(hx:kV! X E) (I:L!)(r:kh! vs)(h:sp (vs++bL) H Q E):bO! (call (u! f) us) (EP X ae O Q) s:=by
 have r2 := r.append hd;refine wpAny_call (_dy (F.run X.A jh! s H (dN! us) (us++ds) (vs++bL) Q E hr I.env0 (hb s us jl! (by rw[<- r2.length];exact F.len _ _ _ _ h)) r2 h) λr s' hq=>?_);cases r with
 | error e=>exact hx ae O H s e s' I hq | ok fl=> cases fl with
  | ret u=>exact I.after hq | next=>exact ro! | brk=>exact ro! | cont=>exact ro!
theorem znd(F:z9Z aO! X.w X.K fw! fa! CX k f fd ps sp) (hr:z2z k X.A) (hg:e6!) (hm:X.mg x=a0! f) (hk:oV! X.K f=d!) (hb:km! X.K ps ds) (hd:xw bL ds) (hx:kV! X E) (ha:PA X (e::es) t) (aG:cm! (x==cP!)) (he:y! (au! (e::es)=dW!::ir!)) (au:ea! es (·.1)): V! (do! x p (e::es)) (znb sp bL E t):=by
 intro ae s O H Q I h;refine _as (z4m I hg hm (_dz I.ok.mod.kin hk (thn (ha pos ae s O H _ I h) λus s1 ⟨vs,H1,I1,r,q⟩=>aw! I1.kIn ?_) he au) aG);exact zfp F hr hb hd hx I1 r q
theorem zju(F:z9Z aO! X.w X.K fw! fa! CX k f fd ps sp)(hr:z2z k X.A)(hg:e6!)(hm:X.mg x=a0! f)(hk:oV! X.K f=d!)(hb:km! X.K ps ds)(hd:xw bL ds)(hx:kV! X E) (aG:cm! (x==cP!)):V! (do! x p []) (znb sp bL E zv3):=by exact iF! (_as (z4m I hg hm (W.callWith_K0 jl! hk (zfp F hr hb hd hx I cB! h)) aG))
end
structure zx(N P:ao!)(sc:Scope):k! where
 kind:sc.kind=sc!
 co:sc.isCoroutine=t!
 gen:sc.isGenerator=t!
 nd:N.Nodup
 pre:N.take P.length=P
 par:∀x∈P,oF!=b! pd!\/oF!=dz!
 nofree:∀y∈sc.names,y.2≠bV!
theorem zc2{kindOf:Str->bn! lr!} : ∀{binds:List (Str×Value)}{m:Str->Option Value},(∀v,(x,v)∉binds)->bindL qo! binds m x=m x
 | [],_,_=>rfl | (n,v)::r,m,h=>by
  unfold bindL;rw[zc2 λw hw=>h w (_H _ hw)];split;·simp[(show x≠n from by rintro rfl;exact h v _al)]
  ·rfl
theorem zcQ{kindOf:Str->bn! lr!} : ∀{binds:List (Str×Value)}{m:Str->Option Value},(∀v,(x,v)∉binds)->bindC qo! binds m x=m x
 | [],_,_=>rfl | (n,v)::r,m,h=>by
  unfold bindC;rw[zcQ λw hw=>h w (_H _ hw)];split;·rfl
  ·simp[(show x≠n from by rintro rfl;exact h v _al)]
theorem zbo{kindOf:Str->bn! lr!} : ∀{P:List Str}{vs:List Value}{i:Nat}{m:Str->Option Value},P.Nodup->am! P x->am! vs v->kindOf x=b! pd!-> bindL qo! (P.zip vs) m x=bB!
 | [],_,_,_,_,h,_,_=>by cases h | _::_,[],_,_,_,_,h,_=>by cases h | p::P,w::vs,0,m,nd,h1,h2,hk=>by
  simp at h1 h2;subst h1;subst h2;show bindL qo! ((p,w)::P.zip vs) m p=_;unfold bindL;rw[zc2 (ls! ((_cn.mp nd).1 (_af hv).1)),_h hk];simp | p::P,w::vs,i+1,m,nd,h1,h2,hk=>by
  unfold bindL;exact zbo (_cn.mp nd).2 (by exact h1) (by exact h2) hk
theorem zcJ{kindOf:Str->bn! lr!} : ∀{P:List Str}{vs:List Value}{i:Nat}{m:Str->Option Value},P.Nodup->am! P x->am! vs v->kindOf x≠b! pd!-> bindC qo! (P.zip vs) m x=bB!
 | [],_,_,_,_,h,_,_=>by cases h | _::_,[],_,_,_,_,h,_=>by cases h | p::P,w::vs,0,m,nd,h1,h2,hk=>by
  simp at h1 h2;subst h1;subst h2;show bindC qo! ((p,w)::P.zip vs) m p=_;unfold bindC;rw[zcQ (ls! ((_cn.mp nd).1 (_af hv).1)),_o hk];simp | p::P,w::vs,i+1,m,nd,h1,h2,hk=>by
  unfold bindC;exact zcJ (_cn.mp nd).2 (by exact h1) (by exact h2) hk
noncomputable def start(N:ao!)(vs:aM!):St:=vs.map some++oE! (N.length-dG!)
noncomputable def z5v(CX:CXT)(P:Program)(w:World)(K:W.Frag)(mg:Str->aL!)(base:Heap)(N:ao!)(qual:Str)(scope:Scope)(f:Addr)(cd:Value)(A:Around)(outer:mL!)(s:Shared)(H:Hp)(E:XK):Cx where
 prog:=P;w:=w;K:=K;mg:=mg;base:=base;A:=kd! at! by! f cd;N:=N;s₀:=s;H₀:=H;env:=pO! at! by! f cd;outer:=outer;stack:=pO! at! by! f cd::as!;ex:=[];calm:=A.handled.isNone;fn:=λ_=>d!;pn:=[];xe:=λe s'=>gn! P w (kd! at! by! f cd) (leaving (pO! at! by! f cd) e) (λ_ eP=>CX as! H s E e eP) (λe' eP=>CX as! H s E e' eP) s'
theorem z5P{sc:Scope} (h:oF!=dz!):∃c,jF! (sg! n sc.names []) x c:=Option.isSome_iff_exists.mp (_dg sc.names n [] (z! h))
theorem zbV{K:W.Frag} (S:zx N ps by!)(e0:zrJ P w K mg R! A as! s H)(hl:mw!)(r:kh! vs) (x:InCallC s ar! (bindL (pO! at! by! f cd).kindOf lV! λ_=>a!) (mr! dU! []) (bindC (pO! at! by! f cd).kindOf lV! λ_=>a!) s1): Inv (z5v CX P w K mg R! N at! by! f cd A as! s H E) [] (o9! N) H s1:=by
 have au:a2!<=N.length:=by have:=_aM List.length S.pre;rw[_b9]at this;lia
 obtain⟨h1,tk,rfl,hk⟩:=x.done;have eR:∀b:Addr,b∉(z5v CX P w K mg R! N at! by! f cd A as! s H E).ex:=λb z=>cN! (show b∈([]) from z) (by simp);refine⟨⟨e0.mod,S.kind,rfl,rfl,ak!,λy z c h1 h2=>(name_of_addr x.apart (_ap h1) (_ap h2)),cs! ?_,λy c _ h=>(_bB (x.above y c (_ap h))),λh=>Option.isNone_iff_eq_none.mp h,Around.frames_deeper e0.frames,em! rfl rfl,λb z=>o7! (eR b),e0.bs,e0.bsz,λb _ _=>eR b,λb z=>o7! (eR b),e0.funs,e0.frf⟩, rfl,e0.bare,Un.kept hk,bM! x.toInCall.ns (λi y v h1 h2 h3=>?_),λy c h=>gy! (x.cell y c h),e0.hok.fresh ak!,λy c h=>(e0.hok.fresh (_bB (x.above y c (_ap h)))),bs! (cN! (show p∈([]) from hp) (by simp)),e0.hok.kept hk,?_⟩
 ·rcases hy with hy | hy;·exact z5P hy
  ·exact gt! (S.nofree _ (_ap hy))
 ·have hi:i<dG!:=by
   unfold start at h2;by_cases hi:i<dG!;·exact hi
   ·rw[_bw (by simpa using hi)]at h2;rw[_be]at h2;split at h2<;>cases h2
  obtain⟨u,hu,rv⟩:=r.get (by
   unfold start at h2;rw[_F (by simpa using hi),_C]at h2;cases e:vs[i]? with
   | none=>rw[e]at h2;cases h2 | some a=>rw[e]at h2;cases h2;rfl);have hp:am! ps y:=by rw[<- S.pre,_am (by lia)];exact h1
  have j4:ps.Nodup:=by rw[<- S.pre];exact S.nd.sublist (_cW _ _)
  refine aN! u rv ?_;rcases S.par y (_x hp) with k | k;·exact z! ⟨k,zbo j4 hp hu k⟩
  ·obtain⟨c,e⟩:=z5P k;refine T! ⟨z! k,c,e,?_⟩;have q:=x.cell y c e;rw[zcJ j4 hp hu (by show jT! y≠_;rw[k];decide)]at q;exact q
 ·unfold start;show _=N.length;rw[_a2,_X,List.length_replicate];lia
theorem zpe{K:W.Frag} {dV kV aE pm aj ct oc:Value} (lk:mZ! f=b! ⟨oc,od,.func (W.fnOf iG! at! params dF! by! dV kV aE pm an aj ct),cD⟩)(bz:W.codeIn K aj at!=d!)(S:zx N ps by!) (len:∀vs H Q E,sp vs H Q E->mw!) (bf:∀(A:Around)(outer:List Env)(s:Shared)(H:Hp)(vs:List V)(Q:VK)(E:XK),z2z k (kd! at! by! f aj)->sp vs H Q E-> ∃t,PSs (z5v CX P w K mg R! N at! by! f aj A as! s H E) dF! t/\t {nx:=λ_ H'=>Q an! H',rt:=Q} (o9! N) H): z9Z P w K mg R! CX (k+1) f (W.fnOf iG! at! params dF! by! dV kV aE pm an aj ct) ps sp:=by
 refine⟨len,λA outer s H args us vs Q E hr e0 hb r cE=>?_⟩;have KX := e0.mod.kin.keeps (gJ! (e0.bs b o e).1);refine codeAny_call_function hr.depth (KX _ _ lk) rfl S.co S.gen rfl (W.codeRec_of KX bz) (hb _ _ _ _ (wpAny_newFunctionEnv_cells S.kind (λ⟨n,v⟩ hy=>by
  rcases S.par n (_af hy).1 with q | q;·exact z! q
  ·exact em! q (_dg _ _ _ (z! q))) λenv he s1 x=>?_));subst he;refine⟨(e0.mod.nolimit.keeps (gJ! (e0.bs b o e).1)).keeps x.toInCall.keep,codeAny_func ?_⟩;obtain⟨t,ht,hq⟩:=bf A as! s H vs Q E (hr.deeper _) cE;refine _aa (ht [] s1 (o9! N) H _ (zbV S e0 (len _ _ _ _ cE) r x) hq) (λfl s' hs=>?_) λe s' hs=>hs;have fin:∀{O':St}{H':Hp}{v:V}{u:Value},Inv (z5v CX P w K mg R! N at! by! f aj A as! s H E) [] O' H' s'->wV v u->Q v H'->CE as! P w H s Q u s':= λ{O' H' v u} J rv q=>⟨v,H',J.os,J.bare,J.base,J.hok,rv,q⟩;cases fl with
 | ret u=>
  obtain⟨v,O',H',J,rv,q⟩:=hs;exact fin J rv q | next=>
  obtain⟨O',H',J,q⟩:=hs;exact fin (v:=V.non) J rfl q | brk=>
  obtain⟨_,_,_,q⟩:=hs;exact mb! q | cont=>
  obtain⟨_,_,_,q⟩:=hs;exact mb! q
section
variable {X:Cx}{x:Str}{p pos:Pos}{e:Expr}{es:aD!}{t:TA}{id T:String}{r:aM!->Hp->eE!}
def tCB(r:aM!->Hp->eE!)(t:TA):TE:=k1! O H (λvs H1=>r vs H1 Q)
theorem z3x(hc:jy! X id r) (hg:e6!) (hm:dM! x) (hv:lk! x=hV! id) (ha:PA X (e::es) t) (hn:j1! (lQ! x)) (aG:cm! (x==cP!)) (he:y! (au! (e::es)=dW!::ir!)) (au:ea! es (·.1)):V! (do! x p (e::es)) (tCB r t):=by
 intro ae s O H Q I h;exact _as (z2b I hg hm hv (PyProof.Rows.callWith_builtin1 (thn (ha pos ae s O H _ I h) λus s1 ⟨vs,H1,I1,r1,q1⟩=>hc ae s1 O H1 vs us Q I1 r1 q1) he au) hn aG)
theorem ziA(hc:wx X kk! r) (hg:e6!) (hm:dM! x) (hv:kO! x kk!) (ha:PA X (e::es) t) (hn:j1! (lQ! x)) (aG:cm! (x==cP!)) (he:y! (au! (e::es)=dW!::ir!)) (au:ea! es (·.1)):V! (do! x p (e::es)) (tCB r t):=by
 intro ae s O H Q I h;exact _as (z2b I hg hm hv (_ab (thn (ha pos ae s O H _ I h) λus s1 ⟨vs,H1,I1,r1,q1⟩=>hc ae s1 O H1 vs us Q I1 r1 q1) he au) hn aG)
end
end L2
namespace HT
section
variable {prog:Program}{w:World}{A:Around}{E:bX!}{s:Shared}
theorem zoa(ht:IsTup I! t eM!) (hb:IsTup I! b ws.toArray) (hv:a1! vs) (h1:ws=[]->Q (u! t) s) (h2:a1! ws->Q fZ! {s with heap:=h7! ({cls:=dK!,data:=oX! (vs++ws)})}) (bi:dG!+ws.length<=aS!):cF! w A (binaryOp .Add (u! t) (u! b)) Q E s:=by
 obtain⟨⟨cls,dd,data,sl⟩,ho,hc,n,hd⟩:=id ht;obtain⟨⟨gQ,ge,data2,cF⟩,dG,gR,n2,eS⟩:=id hb;subst hc hd gR eS;have e:eM!++ws.toArray=nf! (vs++ws):=by simp
 by_cases hw:ws=[]
 ·exact concat_meets (ca! ho) (ca! dG) _dh seq_tuple_add _bX _bS (_bJ _ _) (tuple_addW1 t b eM! ws.toArray n n2 dd ge sl cF (by simpa using hv) (by simp[hw])) ⟨ho,dG,h1 hw⟩
 ·refine concat_meets (ca! ho) (ca! dG) _dh seq_tuple_add _bX _bS (_bJ _ _) (tuple_addW2 t b eM! ws.toArray n n2 dd ge sl cF (by simpa using hv) (by simpa using hw) (bi)) ⟨ho,dG,?_⟩;rw[e];exact h2 hw
noncomputable def sIx(n d:Nat):dt!->Nat
 | none=>d | some v=>al! (v<0) (fy! (v+j! n)) (min v.toNat n)
theorem zeq(n d:Nat):sIx n d a!=d:=rfl
theorem zhH(n d k:Nat):sIx n d (b! (j! k))=min k n:=by
 show (al! (k<0) (fy! (j! k+n)) (min (j! k).toNat n))=min k n;rw[_o (by lia),_T]
theorem zv8(n d:Nat)(hd:d<=n)(o:dt!):sIx n d o<=n:=by cases o with
 | none=>exact hd | some v=>
  show (al! (v<0) (fy! (v+n)) (min v.toNat n))<=n;by_cases hv:v<0;·rw[_h hv];lia
  ·rw[_o hv];exact Nat.min_le_right _ _
theorem zgS(v:Int)(n d:Nat):(al! (v<0) (max (v+j! n) 0) (min v (j! n)))=ab! (sIx n d bB!):=by
 show (al! (v<0) (max (v+n) 0) (min v n))=((al! (v<0) (fy! (v+n)) (min v.toNat n)):Nat);by_cases hv:v<0;·simp only[_h hv];lia
 ·simp only[_o hv];lia
theorem zfG(lo hi:dt!)(n:Nat):Builtin.Slice.sliceAdjust lo hi 1 (j! n)=(ab! (sIx n 0 lo),j! (sIx n n hi)):=by
 refine Prod.ext ?_ ?_;·cases lo with
  | none=>rfl | some v=>exact zgS v n 0
 ·cases hi with
  | none=>rfl | some v=>exact zgS v n n
theorem zg0(i j:Nat):qp! (j! i) (j! j) 1=j-i:=by
 unfold Builtin.Slice.slicePlaces;split<;>lia
theorem z9k(p:n7! v o)(h:Q o s):cF! w A (Builtin.Slice.slicePartIndex v) Q E s:=by cases p with
 | none=>exact _cF h | int i t=>exact slicePart_int h
theorem z0F{sl:Addr}{vl vu:Value}{lo hi:dt!}{n:Nat}{Q:Int×Int×Nat->ey!}(hs:rY! vl vu aa!)(pl:n7! vl lo)(pu:n7! vu hi) (h:Q (ab! (sIx n 0 lo),1,sIx n n hi-sIx n 0 lo) s):cF! w A (Builtin.Slice.sliceApplied (u! sl) (dY! (j! n))) Q E s:=by
 obtain⟨os,bZ,cT,cP⟩:=id hs;refine _a (_a (pZ! bZ cP (_a (pZ! bZ cP (_a (pZ! bZ cP (_m (_a (_cF (_a (z9k pl (_a (z9k pu (_a (_m ?_)))))))))))))));show fJ! _ _ (match Builtin.Slice.sliceAdjust lo hi 1 n with | (lo,hi)=>dY! (lo,j! 1,qp! lo hi 1)) _ _;rw[zfG lo hi n];show fJ! _ _ (dY! (j! (sIx n 0 lo),1,qp! (sIx n 0 lo) (sIx n n hi) 1)) _ _;rw[zg0];exact _m h
theorem zkD(xs:cD!)(i k:Nat):nf! (rX! k (λ(m:Nat)=>xs[(j! i+j! m*1).toNat]?))=nf! ((xs.toList.drop i).take k):=by
 have e:(λ(m:Nat)=>xs[(i+j! m*1).toNat]?)=λm=>xs[i+m]? := by
  funext m;rw[(show fy! (j! i+m*1)=i+m from by lia)]
 rw[e];have:=pick_run xs i k;rw[List.filterMap_map]at this;have e2:((λx=>xs[x]?) ∘ λx=>i+x)=λm=>xs[i+m]? := rfl;rw[e2]at this;rw[this]
theorem z43{lo hi:dt!} (ht:IsTup I! t hf!) (hs:rY! vl vu aa!) (pl:n7! vl lo) (pu:n7! vu hi) (hw:¬ (lN! 0 lo=0/\lN! hH! hi=hH!)) (h:Q fZ! {s with heap:=h7! ({cls:=dK!,data:=oX! ((items.toList.drop (lN! 0 lo)).take (lN! hH! hi-lN! 0 lo))})}) (bi:hH!<=aS!):cF! w A (getItem (u! t) (u! sl)) Q E s:=by
 obtain⟨os,bZ,cT,cP⟩:=id hs;unfold getItem;try with_reducible refine _aS ?_
 refine _a (_cX lu! (by decide) (_a (_ag lu! _Q (_av _Q lu! _cr ?_ (_cG _ _)))));show fJ! _ _ (Builtin.Tuple.tupleItemsOf (u! t) >>= _) _ _;refine _a (tupleItemsOf_ ht ?_);refine _a (_dA ⟨os,bZ,cT⟩ (_a (z0F hs pl pu ?_)));show fJ! _ _ (aF! (j! (lN! 0 lo)==0&&1==1&&(lN! hH! hi-lN! 0 lo)==hH!) _ _) _ _;rw[_o (by
  intro q;rw[_R,_R]at q;have q1 := eq_of_beq q.1.1;have q2 := eq_of_beq q.2;exact hw ⟨by lia,by lia⟩),zkD];exact _a (_aG (_m (aB! _ (_m h))) (by
  show ((items.toList.drop (lN! 0 lo)).take (lN! hH! hi-lN! 0 lo)).toArray.size<=aS!;rw[_u,_b9,_aP,_aZ];lia))
end
end HT
namespace L2
abbrev TO:=St->Hp->(dt!->cz!)->k!
def PO(X:Cx)(e:r7!)(t:TO):k!:= ∀(ae:List (Addr×Obj))(s:Shared)(O:St)(H:Hp)(Q:Option Int->Hp->Prop),L!->t O H Q-> bO! (evalPart e aT!) (λu s'=>∃o H',cQ! H' s'/\n7! u o/\Q o H') s
def zoA:TO:=λ_ H Q=>Q a! H
def zsP(t:TE):TO:=k1! O H (hE! (∃i,x=Y!/\Q is! H1))
section
variable {X:Cx}{e:Expr}{te:TE}{lo hi:r7!}{tl th:TO}{pos p2:Pos}
theorem zhz:PO X a! zoA:=by exact iF! (_m ⟨a!,H,I,aa!,h⟩)
theorem zo9(h:V! e te):PO X l! (zsP te):=by
 refine λae s O H Q I hw=>thn (h ae s O H _ I hw) λu s1 ⟨x,H1,I1,r1,q1⟩=>?_;obtain⟨i,rfl,q⟩:=q1;obtain⟨t,rfl⟩:=r1;exact⟨is!,H1,I1,bS! i,q⟩
def SlR(X:Cx)(r:V->dt!->dt!->Hp->eE!):k!:= ∀(ae:List (Addr×Obj))(s:Shared)(O:St)(H:Hp)(x:V)(v vl vu:Value)(lo hi:Option Int)(sl:Addr)(Q:VK),L!->wV x v->rY! vl vu aa!->n7! vl lo->n7! vu hi->r x lo hi H Q-> ∃T id,typeLookup kk! "__getitem__"=dY! (hV! id)/\pi! v T/\bO! (getItem v (u! sl)) (EP X ae O Q) s
theorem SlR.or(h:SlR X r)(h':SlR X r'):SlR X (qq! (r x lo hi H Q\/r' x lo hi H Q)):=by
 intro ae s O H x v vl vu lo hi sl Q I rx hs pl pu q;rcases q with q | q;·exact h ae s O H x v vl vu lo hi sl Q I rx hs pl pu q
 ·exact h' ae s O H x v vl vu lo hi sl Q I rx hs pl pu q
def tSl(r:V->dt!->dt!->Hp->eE!)(te:TE)(tl th:TO):TE:=gL! (te O H (hE! (tl O H1 λl H2=>th O H2 λu H3=>r x l u H3 Q)))
theorem zeH(hr:SlR X r)(he:V! e te)(hl:PO X lo tl)(hu:PO X hi th):V! (my! e (.Slice lo hi a! p2)) (tSl r te tl th):=by
 intro ae s O H Q I h;refine Subscript_ (thn (he ae s O H _ I h) λv s1 ⟨x,H1,I1,r1,q1⟩=>(wpAny_Slice (thn (hl ae s1 O H1 _ I1 q1) λvl s2 ⟨l,H2,I2,pl,q2⟩=>thn (hu ae s2 O H2 _ I2 q2) λvu s3 ⟨u,H3,I3,pu,q3⟩=>(_m ?_))));have I4:cQ! H3 ({s3 with heap:=s3.heap.push {cls:=av! "slice",data:=eJ! #[vl,vu,aa!]}}):=I3.kept λb ob q=>_g _ q;obtain⟨T,id,hT,ht,hg⟩:=hr ae {s3 with heap:=s3.heap.push {cls:=av! "slice",data:=eJ! #[vl,vu,aa!]}} O H3 x v vl vu l u s3.heap.objs.size Q I4 r1 (Heap.IsSliceOf.new ..) pl pu q3;exact tail_any ht hT hg (by with_unfolding_all rfl)
noncomputable def zoZ(xs:aM!)(lo hi:dt!):aM!:=(li! (ic! 0 lo)).take (ic! w! hi-ic! 0 lo)
theorem z6p(xs:aM!)(lo hi:dt!):v! (zoZ xs lo hi)<=w!:=by
 unfold zoZ;rw[_b9,_aP];lia
def zw9(K:W.Frag):V->dt!->dt!->Hp->eE!:=qq! (∃a xs,x=ag!/\eH! K a xs/\ ¬ (ic! 0 lo=0/\ic! w! hi=w!)/\∀p,gG!->Q cn! (fP! (n! (zoZ xs lo hi))))
theorem zq1:SlR X (zw9 X.K):=by
 intro ae s O H x v vl vu lo hi sl Q I rx hs pl pu h;obtain⟨a,xs,rfl,hx,hw,q⟩:=h;cases rx;obtain⟨af,r,ht,hz⟩:=lo! hx;have ao:iI!=w!:=r.length.symm;refine⟨dr!,_,_Q.lookup,lu!,(HT.z43 ht hs pl pu (by rw[ao];exact hw) ?_ (by rw[ao];exact hz))⟩;rw[ao];refine bo! fZ! _ (I.laid (λb ob q=>_g _ q) ak! ?_) (q _ (mt! _));exact⟨_Z (z6p xs lo hi) hz,_,(n9! (ic! 0 lo)).take (ic! w! hi-ic! 0 lo),zgo.new _ _⟩
def zsS(K:W.Frag):R2:=hG! (∃a b xs ys,x=ag!/\y=u! b/\eH! K a xs/\eH! K b ys/\a1! xs/\w!+c9!<=aS!/\ (ys=[]->Q ag! H)/\(a1! ys->∀p,gG!->Q cn! (fP! (n! (xs++ys)))))
theorem xw.nil_iff(r:i5!):us=[] ↔ xs=[]:=by cases r with
 | nil=>decide | cons _ _=>simp
theorem znp:gB! .Add (zsS X.K):=by
 intro ae s O H x y v u Q I rx ry h;obtain⟨a,b,xs,ys,rfl,rfl,ha,hb,hx,hz,q1,q2⟩:=h;cases rx;cases ry;obtain⟨af,r1,p1,_⟩:=lo! ha;obtain⟨cU,r2,p2,_⟩:=lo! hb;refine HT.zoa p1 p2 (λz=>hx (r1.nil_iff.mp z)) (λz=>bo! ag! H I (q1 (r2.nil_iff.mp z))) (λz=>bo! fZ! _ (I.laid (λb ob q=>_g _ q) ak! ?_) (q2 (λw=>z (r2.nil_iff.mpr w)) _ (mt! _))) (by rw[<- r1.length,<- r2.length];exact hz);exact⟨by rw[_a2];exact hz,_,r1.append r2,zgo.new _ _⟩
end
noncomputable def ixN(n:Nat)(i:Int):bn! Nat:=al! (0<=i) (id! (i<n) (b! kD!)) (id! (-(j! n)<=i) (b! (i+n).toNat))
noncomputable def atI{α:b4!}(xs:eX!)(i:Int):bn! α:=A! (kP! i) (λj=>xs[j]?)
theorem zhk(h:ixN n i=b! j):seqIndex? i n=b! j/\j<n/\-(j! n)<=i/\i<n:=by
 unfold ixN at h;by_cases h0:0<=i
 ·rw[_h h0]at h;by_cases h1:i<n
  ·rw[_h h1]at h;have e := _J h;exact⟨by rw[seqIndex_of h0 h1,e],by lia,by lia,h1⟩
  ·rw[_o h1]at h;cases h
 ·rw[_o h0]at h;by_cases h1:-n<=i
  ·rw[_h h1]at h;have e := _J h;exact⟨by rw[seqIndex_neg (by lia) h1,e],by lia,h1,by lia⟩
  ·rw[_o h1]at h;cases h
theorem zgZ{v:α}(h:atI xs i=bB!):∃j,seqIndex? i w!=b! j/\G! xs j v/\j<w!/\-(j! w!)<=i/\i<w!:=by
 unfold atI at h;cases e:kP! i with
 | none=>rw[e]at h;cases h | some j=>
  rw[e]at h;obtain⟨h1,h2,h3,h4⟩:=zhk e;exact⟨j,h1,h,h2,h3,h4⟩
def zdG(b:Expr):k!:=∀o i,subscripted b t! o i=operate [o,i] (getItem o i)
def IxR(X:Cx)(r:R2):k!:= ∀(bj slice:Expr)(ae:List (Addr×Obj))(s:Shared)(O:St)(H:Hp)(x y:V)(v u:Value)(Q:VK),L!->wV x v->wV y u->r x y H Q-> subscripted slice t! v u=operate [v,u] (getItem v u)->bO! (subscriptTail bj slice v u) (EP X ae O Q) s
def MtR(X:Cx) (id:String) (r:V->aM!->Hp->eE!):k!:= ∀(ae:List (Addr×Obj)) (s:Shared) (O:St) (H:Hp) (x:V) (xs:List V) (v:Value) (us:List Value) (Q:VK),L!->wV x v->i5!->r x xs H Q-> bO! (p0! id (v::us)) (EP X ae O Q) s
section
variable {X:Cx}{a b:Expr}{ta tb:TE}{pos:Pos}
theorem IxR.or(h:IxR X r)(h':IxR X r'):IxR X (hG! (r x y H Q\/r' x y H Q)):=by
 intro bj slice ae s O H x y v u Q I rx ry q hs;rcases q with q | q;·exact h bj slice ae s O H x y v u Q I rx ry q hs
 ·exact h' bj slice ae s O H x y v u Q I rx ry q hs
theorem zq6(hr:IxR X r)(ha:V! a ta)(hb:V! b tb)(hs:zdG b):V! (my! a b) (tOp r ta tb):=iF! (Subscript_ (zuj ha hb I h λv u s2 x y H2 I2 rx ry q=>hr a b ae s2 O H2 x y v u Q I2 rx ry q (hs _ _)))
def zw4(K:W.Frag):R2:=hG! (∃p xs i v,x=cn!/\y=Y!/\SqL K H p xs/\atI xs i=bB!/\Q v H)
def zvr(K:W.Frag):R2:=hG! (∃p xs i v,x=cn!/\y=Y!/\eH! K p xs/\atI xs i=bB!/\Q v H)
theorem znB:IxR X (zw4 X.K):=by
 intro bj slice ae s O H x y v u Q I rx ry h hs;obtain⟨p,xs,i,z,rfl,rfl,hq,he,q⟩:=h;cases rx;obtain⟨t,rfl⟩:=ry;obtain⟨af,r,pl,hz⟩:=lU!;obtain⟨j,h1,h2,h3,h4,h5⟩:=zgZ he;obtain⟨w,ew,eM⟩:=r.get h2;have hl:=r.length;have hn:=zev;have fin:EP X ae O Q w s:=⟨z,H,I,eM,q⟩;by_cases h0:0<=i
 ·have hj:kD!=j:=by
   rw[seqIndex_of h0 h5]at h1;exact _J h1
  exact item_listR qr! h0 (by lia) (by rw[hj];simpa using ew) fin hs
 ·have hj:fy! (i+j! iI!)=j:=by
   rw[seqIndex_neg (by lia) h4]at h1;rw[_u,<- hl];exact _J h1
  exact _bY pl.isList.typeIs slot_list_getitem.lookup (wpAny_getItem_list_neg qr! (by lia) (by rw[_u]<;>lia) (by lia) (by rw[hj];simpa using ew) (fc! fin)) hs
theorem zqx:IxR X (zvr X.K):=by
 intro bj slice ae s O H x y v u Q I rx ry h hs;obtain⟨p,xs,i,z,rfl,rfl,hq,he,q⟩:=h;cases rx;obtain⟨t,rfl⟩:=ry;obtain⟨af,r,pl,hz⟩:=nx!;obtain⟨j,h1,h2,h3,h4,h5⟩:=zgZ he;obtain⟨w,ew,eM⟩:=r.get h2;have hn:=zev;exact _bY pl.typeIs slot_tuple_getitem.lookup (getItem_tuple pl (by lia) (by lia) (by rw[_u,<- r.length];exact h1) (by simpa using ew) (fc! ⟨z,H,I,eM,q⟩)) hs
theorem zfC(af:c3!) (n j:Nat) (u:Value):Obj.mapSeq (·.setIfInBounds j u) {cls:=dd!,data:=oJ! n}={cls:=dd!,data:=.seq (nf! (af.set j u)) n}:=by simp[Obj.mapSeq]
theorem Inv.lst{ae:dh!}{O:St}{H:Hp}{s:Shared}{p:Addr}{xs:aM!}(I:L!)(h:H p=b! bH!): ∃(af:List Value)(n:Nat),xw xs af/\fY! p ({cls:=dd!,data:=oJ! n})/\w!<=aS!:=by
 obtain⟨z,af,n,r,e⟩:=gY! p h;exact⟨af,n,r,e,z⟩
theorem Inv.lstUpd{O:St} {af aP:c3!} (I:L!) (h:H p=b! bH!) (ho:fY! p ({cls:=dd!,data:=oJ! n})) (hf:f {cls:=dd!,data:=oJ! n}={cls:=dd!,data:=.seq aP.toArray n'}) (r:xw ys aP) (hz:oL!) (t:Nat): cQ! (fP! hW!) ({s with heap:=sP! p f,toks:=t}):=by
 have e:e5! (sP! p f) p ({cls:=dd!,data:=.seq aP.toArray n'}):=by rw[Heap.get?_update_self f ho (by rw[hf]<;>rfl),hf]
 exact I.write (by rw[h];trivial) c4! (λb u hb q=>bb! (Heap.get?_update_other _ _ (_bN hb)) q) (dv! _) ⟨hz,aP,n',r,e⟩
def zsr:V->V->V->Hp->cz!->k!:=λo i v H Q=>∃p xs k j,o=cn!/\i=c! k/\H p=b! bH!/\kP! k=b! j/\Q (fP! (W! (iB! j v)))
theorem set_list:zvh X zsr:=by
 intro ae s O H o i v ov iv u Q I ro ri rv h;obtain⟨p,xs,k,j,rfl,rfl,hp,hj,q⟩:=h;cases ro;obtain⟨t,rfl⟩:=ri;obtain⟨af,n,r,ho,hz⟩:=I.lst hp;obtain⟨h1,h2,h3,h4⟩:=zhk hj;have hl:=r.length;have hn:=zev;have I' := I.lstUpd hp ho (zfC af n j u) (r.set rv j) (by rw[List.length_set];exact hz) fU!;by_cases h0:0<=k
 ·have hk:dZ!=j:=by
   rw[seqIndex_of h0 h4]at h1;exact _J h1
  exact W.ki_setAt ho h0 (by lia) (by rw[_u,<- hl];exact h4) (by rw[hk];exact bM! I' q)
 ·have hk:fy! (k+iI!)=j:=by
   rw[seqIndex_neg (by lia) h3]at h1;rw[_u,<- hl];exact _J h1
  exact W.ki_setBack ho (by lia) (by rw[_u,<- hl];exact h3) (by lia) (by rw[hk];exact bM! I' q)
theorem zc6(lo hi:dt!)(n:Nat):(sliceBounds lo hi a! n).1=ab! (n8! n 0 lo)/\(sliceBounds lo hi a! n).2.1=j! (n8! n n hi)/\(sliceBounds lo hi a! n).2.2=1:=by
 refine aN! ?_ ?_ rfl;·cases lo with
  | none=>rfl | some i=>
   simp only[sliceBounds,HT.sIx,_di,_v];by_cases h:i<0;·simp only[h,_v]<;>lia
   ·simp only[h,_aU]<;>lia
 ·cases hi with
  | none=>rfl | some i=>
   simp only[sliceBounds,HT.sIx,_di,_v];by_cases h:i<0;·simp only[h,_v]<;>lia
   ·simp only[h,_aU]<;>lia
theorem z9L(af:c3!)(lo hi:dt!):slicePick fu! lo hi a!=nf! ((af.drop (n8! jU! 0 lo)).take (n8! jU! jU! hi-n8! jU! 0 lo)):=by
 obtain⟨h1,h2,h3⟩:=zc6 lo hi iI!;unfold slicePick;rw[h1,h2,h3];simp only[sliceRange_one,pick_run,_u]<;>rfl
def zvN(K:W.Frag):V->dt!->dt!->Hp->eE!:=qq! (∃a xs,x=ag!/\SqL K H a xs/\∀p,gG!->Q cn! (fP! (W! (zoZ xs lo hi))))
theorem zmU:SlR X (zvN X.K):=by
 intro ae s O H x v vl vu lo hi sl Q I rx hs pl pu h;obtain⟨a,xs,rfl,hx,q⟩:=h;cases rx;obtain⟨af,r,ht,hz⟩:=I.list hx;have ao:=r.length;refine⟨ef!,_,slot_list_getitem.lookup,ht.isList.typeIs,(wpAny_getItem_list_slice ht.isList hs pl pu aa! (by decide) ?_ (by rw[_u]<;>lia))⟩;rw[z9L,<- ao];refine bo! fZ! _ (I.laid (λb ob q=>_g _ q) ak! ?_) (q _ (mt! _));exact⟨_Z (z6p xs lo hi) hz,_,0,(n9! (ic! 0 lo)).take (ic! w! hi-ic! 0 lo),g9!⟩
noncomputable def z8r:eG! V
 | .non=>true | .bl _=>true | .int _=>true | .str _=>true | _=>false
noncomputable def eqV:V->eG! V
 | .non,.non=>true | .bl a,.bl b=>a==b | .bl a,.int b=>(al! a 1 0)==b | .int a,.bl b=>a==(al! b 1 0) | .int a,.int b=>a==b | .str a,.str b=>a==b | _,_=>false
theorem zq4(ry:wV y u)(rx:wV x v)(fy:z8r y=d!)(fx:z8r x=d!):SeqAt.EqAt A s u v (eqV y x):=by cases y with
 | non=>
  cases ry;cases x with
  | non=>cases rx;exact SeqAt.EqAt.same _ | bl b=>cases rx;exact SeqAt.EqAt.none_bool b | int b=>obtain⟨t,rfl⟩:=rx;exact SeqAt.EqAt.none_int b t | str b=>obtain⟨t,rfl⟩:=rx;exact SeqAt.EqAt.none_str b t | _=>exact rD! fx
 | bl a=>
  cases ry;cases x with
  | non=>cases rx;exact SeqAt.EqAt.bool_none a | bl b=>cases rx;exact SeqAt.EqAt.bool_bool a b | int b=>obtain⟨t,rfl⟩:=rx;exact SeqAt.EqAt.bool_int a b t | str b=>obtain⟨t,rfl⟩:=rx;exact SeqAt.EqAt.bool_str a b t | _=>exact rD! fx
 | int a=>
  obtain⟨t',rfl⟩:=ry;cases x with
  | non=>cases rx;exact SeqAt.EqAt.int_none a t' | bl b=>cases rx;exact SeqAt.EqAt.int_bool a t' b | int b=>obtain⟨t,rfl⟩:=rx;exact SeqAt.EqAt.int_int a t' b t | str b=>obtain⟨t,rfl⟩:=rx;exact SeqAt.EqAt.int_str a t' b t | _=>exact rD! fx
 | str a=>
  obtain⟨t',rfl⟩:=ry;cases x with
  | non=>cases rx;exact SeqAt.EqAt.str_none a t' | bl b=>cases rx;exact SeqAt.EqAt.str_bool a t' b | int b=>obtain⟨t,rfl⟩:=rx;exact SeqAt.EqAt.str_int a t' b t | str b=>obtain⟨t,rfl⟩:=rx;exact SeqAt.EqAt.str_str a t' b t | _=>exact rD! fx
 | _=>exact rD! fy
noncomputable def eqU(x:V)(u:Value):Bool:=match u with
 | .none=>eqV an! x | .bool b=>eqV hD! x | .int i _=>eqV Y! x | .str z _=>eqV (aq! z) x | _=>false
theorem zlN(r:wV y u)(f:z8r y=d!):eqU x u=eqV y x:=by cases y with
 | non=>cases r;rfl | bl b=>cases r;rfl | int i=>obtain⟨t,rfl⟩:=r;rfl | str z=>obtain⟨t,rfl⟩:=r;rfl | _=>exact rD! f
theorem z75: ∀{xs:List V}{us:List Value},i5!->oa! z8r=d!->us.any (eqU x)=xs.any λy=>eqV y x
 | _,_,.nil,_=>rfl | y::xs,u::us,.cons r t,f=>by
  rw[_cg,_R]at f;rw[List.any_cons,List.any_cons,zlN r f.1,z75 t f.2]
theorem z2M(rx:wV x v)(fx:z8r x=d!):∀{xs:List V}{us:List Value},i5!->oa! z8r=d!->∀u∈us,SeqAt.EqAt A s u v (eqU x u)
 | _,_,.nil,_=>λu hu=>by cases hu | y::xs,u::us,.cons r t,f=>λu' hu=>by
  rw[_cg,_R]at f;rcases dE! hu with rfl | hu;·rw[zlN r f.1];exact zq4 r rx f.1 fx
  ·exact z2M rx fx t f.2 u' hu
noncomputable def inV(x:V)(xs:aM!):Bool:=xs.any λy=>eqV y x
def rIn(K:W.Frag)(cb:Bool):R2:=hG! (∃p xs,y=cn!/\(SqL K H p xs\/eH! K p xs)/\z8r x=d!/\oa! z8r=d!/\Q (.bl (al! cb (! inV x xs) (inV x xs))) H)
theorem ziH:dV! .In (rIn X.K t!):=by
 intro ae s O H x y v u Q I rx ry h;obtain⟨p,xs,rfl,hq,fx,fs,q⟩:=h;cases ry;rcases hq with hq | hq
 ·obtain⟨af,r,pl,hz⟩:=lU!;refine SeqAt.in_listAt (eqU x) qr! (λw hw=>z2M rx fx r fs w (by simpa using hw)) (bo! (.bl _) H I ?_);rw[show st! x=af.any (eqU x) by simp,z75 r fs];exact q
 ·obtain⟨af,r,pl,hz⟩:=nx!;refine SeqAt.in_tupleAt (eqU x) pl (λw hw=>z2M rx fx r fs w (by simpa using hw)) (bo! (.bl _) H I ?_);rw[show st! x=af.any (eqU x) by simp,z75 r fs];exact q
theorem zb2:dV! .NotIn (rIn X.K d!):=by
 intro ae s O H x y v u Q I rx ry h;obtain⟨p,xs,rfl,hq,fx,fs,q⟩:=h;cases ry;rcases hq with hq | hq
 ·obtain⟨af,r,pl,hz⟩:=lU!;refine SeqAt.notIn_listAt (eqU x) qr! (λw hw=>z2M rx fx r fs w (by simpa using hw)) (bo! (.bl _) H I ?_);rw[show st! x=af.any (eqU x) by simp,z75 r fs];exact q
 ·obtain⟨af,r,pl,hz⟩:=nx!;refine SeqAt.notIn_tupleAt (eqU x) pl (λw hw=>z2M rx fx r fs w (by simpa using hw)) (bo! (.bl _) H I ?_);rw[show st! x=af.any (eqU x) by simp,z75 r fs];exact q
theorem zbF:lX! X "len" (∃p ys,xs=[cn!]/\(SqL X.K H p ys\/eH! X.K p ys)/\Q (c! c9!) H):=by
 intro ae s O H xs us Q I r h;obtain⟨p,ys,rfl,hq,q⟩:=h;obtain⟨u,rfl,rx⟩:=k2!;cases rx;have hn:=zev;rcases hq with hq | hq
 ·obtain⟨af,r',pl,hz⟩:=lU!;have ao:=r'.length;exact Calls.call_len_list qr! (by simp only[_u]<;>lia) ⟨c! c9!,H,im!,⟨fU!+1,by rw[_u,ao]⟩,q⟩
 ·obtain⟨af,r',pl,hz⟩:=nx!;have ao:=r'.length;exact len_tuple pl (by simp only[_u]<;>lia) ⟨c! c9!,H,im!,⟨fU!+1,by rw[_u,ao]⟩,q⟩
theorem zcN:wx X dd! (λxs H Q=>∃p ys,xs=[cn!]/\(SqL X.K H p ys\/eH! X.K p ys)/\∀l,H l=a!->Q eD! (hS! l hW!)):=by
 intro ae s O H xs us Q I r h;obtain⟨p,ys,rfl,hq,q⟩:=h;obtain⟨u,rfl,rx⟩:=k2!;cases rx;have fin:∀(af:List Value),xw ys af->oL!->∀(h':Heap) (c':Nat),(∀b o',fY! b o'->gp! b o')-> gp! ar! ({cls:=dd!,dict:=none,data:=oJ! c',slots:=#[]})->EP X ae O Q fZ! {s with heap:=h'}:=λaf r' hz h' c' kp e=> bo! fZ! _ (I.laid kp ak! (show kF aO! X.w _ h' _ hW! from⟨hz,af,c',r',e⟩)) (q _ (mt! _));rcases hq with hq | hq
 ·obtain⟨af,r',pl,hz⟩:=lU!;have ao:=r'.length;obtain⟨o,ho,hc,n,hd⟩:=pl.isList;exact call_list_seq p c4! ho hc hd (λh' c' kp e=>fin af r' hz h' c' kp e) (by simp only[_u]<;>lia)
 ·obtain⟨af,r',pl,hz⟩:=nx!;have ao:=r'.length;obtain⟨o,ho,hc,n,hd⟩:=pl;exact call_list_seq p (T! rfl) ho hc hd (λh' c' kp e=>fin af r' hz h' c' kp e) (by simp only[_u]<;>lia)
theorem zaC:wx X dK! (λxs H Q=>∃p ys,xs=[cn!]/\((SqL X.K H p ys/\∀l,H l=a!->Q eD! (hS! l (n! ys)))\/(eH! X.K p ys/\Q cn! H))):=by
 intro ae s O H xs us Q I r h;obtain⟨p,ys,rfl,h⟩:=h;obtain⟨u,rfl,rx⟩:=k2!;cases rx;rcases h with⟨hq,q⟩ | ⟨hq,q⟩
 ·obtain⟨af,r',pl,hz⟩:=lU!;have ao:=r'.length;refine call_tuple_list qr! (λh' kp=>?_) (by simp only[_u]<;>lia);have I1 := I.kept (t':=s.toks) kp;exact bo! (u! h'.objs.size) _ (I1.laid (t':=s.toks) (lW! _ e) ak! (show kF aO! X.w _ _ _ (n! ys) from⟨hz,af,r',zgo.new _ _⟩)) (q _ (sL! ak!))
 ·obtain⟨af,r',pl,hz⟩:=nx!;exact call_tuple_same pl (bo! cn! H I q)
def tyV(K:W.Frag)(T:String)(x:V)(H:Hp):k!:=match x with
 | .str _=>T=gj! | .int _=>T=et! | .ref p=>(T=ef!/\∃xs,SqL K H p xs)\/(T=dr!/\∃o,mZ! p=b! o/\gk!=dK!/\o.dict=a!)\/ (T=nG!/\((∃ah,H p=b! g2!)\/∃ah,H p=b! le!))\/(T="set"/\∃S n,H p=b! (.set S n)) | _=>False
theorem zpR{O:St} (I:L!)(r:wV x v)(ty:tyV X.K T x H): pi! v T/\∀a,v=ag!->∃ob,fY! a ob/\ob.dict=a!:=by cases x with
 | str z=>
  obtain⟨t,rfl⟩:=r;cases (ty);exact⟨typeIs_str s z t,λ_ e=>nomatch e⟩ | int i=>
  obtain⟨t,rfl⟩:=r;cases (ty);exact⟨_ca s i t,λ_ e=>nomatch e⟩ | ref p=>
  cases r;rcases ty with⟨rfl,xs,hq⟩ | ⟨rfl,o,hk,hc,hd⟩ | ⟨rfl,hk⟩ | ⟨rfl,S,n,hk⟩
  ·obtain⟨af,_,pl,_⟩:=lU!;refine⟨pl.isList.typeIs,λa e=>?_⟩;cases e;obtain⟨o,n,e,c,hd,_⟩:=pl;exact cy! e hd
  ·refine⟨cy! (I.kIn p o hk) hc,λa e=>?_⟩;cases e;exact cy! (I.kIn _ o hk) hd
  ·obtain⟨o,e,ex⟩:=(show ∃o,dp! p/\o.ExactDict from by
    rcases hk with⟨ah,hk⟩ | ⟨ah,hk⟩
    ·obtain⟨_,_,_,_,o,_,_,e,ex,_⟩:=gY! p hk;exact cy! e ex
    ·obtain⟨_,_,_,_,o,_,_,e,ex,_⟩:=gY! p hk;exact cy! e ex);refine⟨cy! e ex.1,λa e2=>?_⟩;cases e2;exact cy! e ex.2.1
  ·obtain⟨o,_,_,_,e,ex,_⟩:=gY! p hk;refine⟨cy! e ex.1,λa e2=>?_⟩;cases e2;exact cy! e ex.2.1 | _=>exact mb! ty
def tBM(K:W.Frag)(T:String)(r:V->aM!->Hp->eE!)(to:TE)(t:TA):TE:=gL! (to O H (hE! (tyV K T x H1/\t O H1 λxs H2=>r x xs H2 Q)))
variable {o e:Expr}{es:aD!}{to:TE}{t:TA}{name:Str}{ap ak:Pos}{T id:String}{r:V->aM!->Hp->eE!}
theorem zoz(pa:PlainAttrs T) (slot:Slot T iG! id) (gS:typeOf (.builtin id)=dY! (av! "method_descriptor")) (hm:MtR X id r) (ho:V! o to) (ha:PA X (e::es) t) (am:y! (lL! o iG! gC!=gC!)) (aH:di! (ht! (hO! ak (e::es)) (! x.1)&&ht! (nF! ak []) (gl! x.1) && a5! (v! (e::es)+v! ([]:gU!)+(nv! ([]:gU!) 0 1)<30))) (ai:di! pY!) (hs:y! (au! (e::es)=dW!::ir!)) (aw:y! ((hO! ak es).any (·.1)=t!)): V! (fz! (mB! o iG!) (e::es) [] ak) (tBM X.K T r to t):=by
 refine iF! (_bZ am aH ai rfl (thn (ho ae s O H _ I h) λv s1 ⟨x,H1,I1,r1,ty,q1⟩=>?_));obtain⟨h1,h2⟩:=zpR I1 r1 ty;refine⟨T,id,pa,slot,gS,h1,h2,?_⟩;have hA:=ha ak ae s1 O H1 _ I1 q1;rw[hs]at hA ⊢;exact _b0 (by show (t!||(hO! ak es).any (·.1))=t!;rw[aw]<;>rfl) (_bx (thn hA λus s2 ⟨vs,H2,I2,r2,q2⟩=>hm ae s2 O H2 x vs v us Q I2 r1 r2 q2))
end
def MtM(X:Cx) (id:String) (r:V->aM!->Hp->eE!):k!:= ∀(ae:List (Addr×Obj)) (s:Shared) (O:St) (H:Hp) (x:V) (xs:List V) (v:Value) (us:List Value) (Q:VK),L!->wV x v->i5!->r x xs H Q-> bO! (p0! id (v::us)) (EP X ae O Q) s
theorem xw.one:∀{x:V}{us:List Value},kh! [x]->∃u,us=[u]/\wV x u | _,_,.cons r .nil=>aB! _ r
theorem xw.rep(h:i5!):∀k:Nat,xw (hN! k xs) (hN! k us)
 | 0=>cB! | k+1=>xw.append h (xw.rep h k)
theorem foldl_rep(af:c3!):∀(k:Nat)(acc:List Value), List.foldl (λx1 x2=>x1++x2) acc.toArray (md! k fu!)=nf! (acc++hN! k af)
 | 0,acc=>by simp | k+1,acc=>by rw[<- (show (acc++af)++hN! k af=acc++hN! (k+1) af from by rw[_aO,_bv,_b1]),<- foldl_rep af k (acc++af),<- (show acc.toArray++fu!=nf! (acc++af) from by simp),_aO,_a8]
section
variable {X:Cx}{ae:dh!}{O:St}{H:Hp}{s:Shared}{l b:Addr}{xs ys zs:aM!}
theorem Inv.lset{af aP:c3!} (I:L!) (hH:H l=b! bH!) (e:fY! l ({cls:=dd!,data:=oJ! n})) (hf:f fu!=aP.toArray) (hv:xw ys aP) (hz:oL!): cQ! (hS! l hW!) ({s with heap:=lG! l f,toks:=t'}):=by
 have q:=PySem.IsL.update e f;rw[hf]at q;exact I.write (by rw[hH];exact trivial) c4! (λb' u hb hu=>bb! (Heap.get?_update_other I! (sM! f) (_bN hb)) hu) (gy! q) ⟨hz,aP,_,hv,q⟩
theorem Inv.lnew(I:L!) (hv:xw ys af) (hz:oL!): cQ! (hS! ar! hW!) ({s with heap:=h7! ({cls:=dd!,data:=.seq fu!}),toks:=t'}):= I.laid (λ_ _ q=>_g _ q) ak! ⟨hz,af,0,hv,g9!⟩
theorem Inv.fresh(I:L!):H ar!=a!:=mt! _
theorem Inv.lstM(I:L!)(hH:H l=b! bH!):w!<=aS!/\∃(af:List Value)(n:Nat),xw xs af/\w!=jU!/\fY! l ({cls:=dd!,data:=oJ! n}):=by
 obtain⟨z,af,n,r,e⟩:=gY! l hH;exact⟨z,af,n,r,aE!,e⟩
theorem zkZ(h:n<=aS!):Builtin.List.listTooLong n=t!:=_ae (by lia)
end
section
variable {X:Cx}
def zo3:V->aM!->Hp->eE!:=λx vs H Q=>∃l xs y,x=eD!/\vs=[y]/\H l=b! bH!/\w!<aS!/\Q an! (hS! l (W! (xs++[y])))
theorem zi2:MtM X "list.append" zo3:=by
 intro ae s O H x vs v us Q I rx rv h;obtain⟨l,xs,y,rfl,rfl,hH,hz,q⟩:=h;cases rx;obtain⟨u,rfl,ru⟩:=rv.one;obtain⟨z,af,n,r,hl,e⟩:=I.lstM hH;refine _bj F.slot_list_append (ca! e) F.entry_list_append (F.args_list_append_2 _ _) (PySem.list_append l fu! n u (by rw[_u];lia)) ⟨e,?_⟩;refine bo! an! _ (I.lset hH e (by simp) (r.append (eI! ru cB!)) ?_) q;rw[_a2,List.length_singleton];lia
def zvC:R2:=hG! (∃l k xs,x=eD!/\y=c! k/\Rd H l bH!/\-(2 ^ 63)<=k/\k<2 ^ 63/\w!*dZ!<=aS!/\ ∀p,gG!->Q cn! (fP! (W! (hN! dZ! xs))))
theorem len_rep{α:b4!}(xs:eX!)(k:Nat):(md! k xs).flatten.length=k*w!:=by induction k with
 | zero=>simp | succ k ih=>rw[_aO,_bv,_a2,ih,Nat.succ_mul,Nat.add_comm]
theorem zlK:nD! zvC:=by
 intro ae s O H x y v u Q I rx ry h;obtain⟨l,k,xs,rfl,rfl,hH,h1,h2,hz,q⟩:=h;cases rx;obtain⟨t,rfl⟩:=ry;obtain⟨z,af,n,r,e⟩:=hH.ok eK!;have ao:iI!*dZ!<=aS!:=by rw[_u,<- (show w!=jU! from by have:=r.length;lia)];exact hz
 have gT:¬ (! Builtin.List.listFitsIndex k)=d!:=by
  rw[fitsIndex_both h1 h2];exact _ay
 refine _bD (by decide) (ca! e) (λs'=>_ca s' k t) noFill_list_mul F.fills_int_mul _br repeat_list _dj.lookup (_bj _br (_ca s k t) _dk (_cY _ _) (int___rmul___int_list k t l fu! n) ⟨e,rfl,ca! e,_bj F.slot_list_mul (ca! e) F.entry_list_mul (F.args_list_mul_2 _ _) (AutoListH.list___mul___list_int_3 l fu! n k t gT (by
  have:aS!<=(2 ^ 63-1) / 8:=by decide
  lia) (by
  rw[zkZ ao];exact _ay)) ⟨e,?_⟩⟩);rw[(show List.foldl (λx1 x2=>x1++x2) #[] (md! (aF! af.toArray.isEmpty 0 dZ!) fu!)=(md! dZ! af).flatten.toArray from by
  have f0 := λm=>by
   have:=foldl_rep af m [];rw[_ar]at this;exact this
  rw[f0];cases af with
  | nil=>simp | cons a r'=>rw[_o (by simp)])];exact⟨u! _,_,I.lnew (r.rep dZ!) (by rw[len_rep,_cu];exact hz),rfl,q _ I.fresh⟩
end
end L2
namespace Att
open PySem.W PySem.Calls
theorem z7J: ∀(ns:List Int)(vs:List Value),WellAll P h vs (pj! WData.int)->rB! vs:=by
 intro ns;induction ns with
 | nil=>
  intro vs w;cases w;exact cB! | cons n ns ih=>
  intro vs w;cases w with | cons a b=>
   cases a;exact .cons _ _ (ih _ b)
theorem ziZ{l:OpenLaw} (hn:l.most=b! n) (ce:l.row.toRowW.claim.pre jS!=d!) (gU:WellAll P h eT jS!): ∃a vs ns,eT=[lh! a]/\jS!=[WData.list (pj! WData.int)]/\eR! a ({cls:=dd!,data:=.seq eM!})/\rB! vs/\fA!<=n:=by
 have hc:l.pre.holds [] {args:=args}=d!:=(pre_splitW ce).2;obtain⟨d,r,rfl,h1,h2⟩:=hasAllW_cons ((pre_splitW ce).1);obtain rfl:=hasAllW_nil h2;obtain⟨xs,rfl,h3⟩:=hasW_list h1;obtain⟨ns,rfl⟩:=items_int h3;cases gU with | cons w1 w2=>
  cases w2;cases w1 with | list ho gV=>exact⟨_,_,ns,rfl,rfl,ho,z7J ns _ gV,(by
  have h4:(WTm.not (.lt (.lit (c! n)) (.len (.arg 0)))).holds [] {args:=[.list (pj! .int)]}=d!:=by
   have h4:=(holds_andW hc).1;rw[hn]at h4;exact h4
  have h5:=condW_of h4 (w_not (w_lt w_lit (w_len_list (w_arg rfl))));(simp at h5;lia))⟩
theorem zi4(l:OpenLaw)(args:ee! WData):l.row.toRowW.claim.post jS! (.bool d!) jS!=d!:= postW_of ((by rfl)) ((w_eq_bool (w_res rfl) w_lit)) rfl
theorem zdq{l:OpenLaw} (hn:l.most=b! n)(gW:d.params.defaults=[]) (call:∀(w:World)(s₀ s₁:Shared)(mg mb:Str->Option Value)(fa:Addr)(o:Obj)(pm cd aE:Value)(a:Addr)(vs:List Value)(ns:List Int), Ground q ob! [] XP w s₀ mg mb nh!->YP w nh!-> oZ! fa o->h5!=.func (docDef d.name d.params d.body d.scope pm cd aE)->s₁.heap.CodeRec cd d.name->mg d.name=a0! fa-> oZ! a ({cls:=dd!,data:=.seq eM!})->rB! vs->fA!<=n->s₁.gens=#[]-> kC! (model l.prog w) qs! (.call (u! fa) (dN! [ag!])) (λr s'=>r=l3! (.bool d!)/\OldK nh! gK!/\qe!=s₁.os/\rl!) jk!): WalkO q ob! XP YP l.row.toRowW d [] (λf vs=>PySem.call f vs):=by
 intro w s₀ s₁ mg mb G Yy fa o pm cd aE dV kV ho hd bz hD cV hg args eT as ce mT pO gU pP;obtain rfl:dV=aa!:=Dflts.none hD gW;obtain rfl:kV=aa!:=Dflts.noKw hD;obtain⟨a,vs,ns,rfl,rfl,dH,cG,ao⟩:=ziZ hn ce gU;refine enter_call (_dy (call w s₀ jk! mg mb fa o pm cd aE a vs ns G Yy ho (fd_plain hd) bz cV dH cG ao hg) λr s' hq=>?_);obtain⟨rfl,h2,h3,h4⟩:=hq;exact⟨z! ⟨.bool d!,.bool d!,[],rfl,λ_=>rfl,.bool d!,zi4 l _,λ_=>⟨List.Pairwise.nil,λ_ hm=>(nomatch hm)⟩⟩,h2,h3,h4⟩
section
variable {prog:Program}{w:World}{A:Around}{E:bX!}{s:Shared}{K:Frag}
noncomputable def ledger(h:Heap)(L d:Addr):dh!:=rX! jg! (λa=>al! (a=L\/a=d) a! ((p4! a).map λo=>(a,o)))
end
end Att
namespace L2
theorem zb1:∀{vs:List Value}{ns:List Int},rB! vs->xw hQ! vs
 | _,_,.nil=>cB! | _,_,.cons n t h=>eI! (cf! t) (zb1 h)
def zu9(H:Hp):k!:=∀b,e7!\/∃o xs,cY! (d7! bH!)
theorem zkz{P:Program}{w:World}{K:W.Frag}{mg mb:Str->aL!}{CX:CXT}{k:Nat}{fa a:Addr}{fd:FuncData}{x:Str}{sp:Sp}{s₁:Shared}{vs:c3!}{ns:h!} (KX:K.In nh!)(j5:s₁.heap.Ns l6! mg)(hb:s₁.heap.Ns builtinsNs mb)(mU:∀x:Str,lQ! x->mb x=lk! x)(gX:s₁.heap.NoLimit)(hg:s₁.gens=#[]) (ha:oZ! a ({cls:=dd!,data:=.seq eM!}))(hi:rB! vs)(hl:fA!<=aS!)(hr:z2z k qs!) (F:∀base:Heap,K.In R!->ss! mg->z9Z P w K mg R! CX k fa fd [x] sp)(eU:∀(s:Shared)(u:Value),qm! s fd (dN! [u]) [(x,u)]) (cE:∀H:Hp,zu9 H->SqL K H a hQ!->sp [ag!] H (λv _=>v=eV!) (fx! nd!)) (mV:∀H e s',CX [] H jk! (fx! nd!) e s'->nd!): kC! (model P w) qs! (.call (u! fa) (dN! [ag!])) (λr s'=>r=l3! (.bool d!)/\OldK nh! gK!/\qe!=s₁.os/\rl!) jk!:=by
 have rv:=zb1 hi;have eV:∀H:Hp,zu9 H->SqL K H a hQ!->HOk P w H nh!->(∀b,H b≠a!->b=a)->(H a≠a!->oU!=a!)-> kC! (model P w) qs! (.call (u! fa) (dN! [ag!])) (λr s'=>r=l3! (.bool d!)/\OldK nh! gK!/\qe!=s₁.os/\rl!) jk!:=by
  intro H hO hS hok hA hK;have bU:∀{b:Addr}{o:Obj},oZ! b o->e7!->e5! (zp1 nh! H) b o:=λe n=>zkm e n;have eR:∀{b:Addr}{o:Obj}{es:Array DictEntry}{ep:Nat},oZ! b o->h5!=.dict es ep->e7!:=λ{b o es ep} e d=>by cases q:H b with
   | none=>rfl | some u=>
    have e' := hA b (by rw[q];simp);subst e';rw[ha]at e;cases e;cases d
  have gf:∀{b:Addr}{m:Str->Option Value},s₁.heap.Ns b m->(zp1 nh! H).Ns b m:=λ{b m} ⟨o,es,ep,e,d,r⟩=>⟨o,es,ep,bU e (eR e d),d,r⟩;have j6 := gJ! (bU (KX b o e) (by cases q:H b with
   | none=>rfl | some u=>
    have e' := hA b (by rw[q];simp);subst e';rw[hK (by rw[q];simp)]at e;cases e));refine _dy ((F _ j6 (gf j5)).run qs! [] jk! H (dN! [ag!]) [ag!] [ag!] _ _ hr ⟨rfl,⟨j6,gf j5,⟨mb,gf hb,mU⟩,let ⟨mc,h1,h2⟩:=gX;⟨mc,gf h1,h2⟩⟩,gJ! (zoT e),Nat.le_of_eq (zgy _ _),trivial,cr! (cN! (show b∈([]:bi!) from hb) (by simp)),hok,.of_eq hg⟩ (eU jk! ag!) (eI! rfl cB!) (cE H hO hS)) λr s' h=>?_;cases r with
  | error e=>exact b5! (mV H e s' h) | ok fl=> cases fl with
   | next=>exact mb! h | brk=>exact mb! h | cont=>exact mb! h | ret u=>
    obtain⟨v,H',os,bare,un,gY,r',q⟩:=h;subst q;obtain rfl:u=Value.bool d!:=r';refine⟨rfl,OldK.of_keep (gJ! ?_),os,bare⟩;cases q:H b with
    | none=>exact un.keep b o e q (by exact λz=>cN! (show b∈([]) from z) (by simp)) (by simp) | some u=>
     rcases hO b with z | ⟨ob,xs,z⟩;·rw[q]at z;cases z
     ·obtain⟨e1,_⟩:=hok b _ z;obtain⟨e2,_⟩:=gY b _ (un.frzs b ob _ z);rw[e]at e1;cases e1;exact e2
 cases hk:oU! with
 | some o=>
  have e:=KX a o hk;rw[ha]at e;cases e;refine eV (λ_=>a!) (λ_=>c4!) (T! ⟨_,eM!,_,hk,rfl,rfl,rfl,by rw[_u,hi.length];exact hl,by exact rv⟩) (λb u z=>by have z' := z;cases z') (λb z=>gt! z) λz=>gt! z | none=>
  refine eV (λb=>id! (b=a) (b! (.frz {cls:=dd!,data:=.seq eM!} (W! hQ!)))) (λb=>?_) (z! (em! ({cls:=dd!,data:=.seq eM!}) gx!)) (λb u z=>?_) (λb z=>?_) λ_=>hk
  ·by_cases hb:b=a;·exact T! ⟨_,_,_h hb⟩
   ·exact z! (_o hb)
  ·by_cases hb:b=a
   ·cases ((_h hb).symm.trans z);subst hb;exact⟨ha,by rw[_X];exact hl,vs,_,rv,ha⟩
   ·cases ((_o hb).symm.trans z)
  ·by_cases hb:b=a;·exact hb
   ·exact cN! (_o hb) z
noncomputable abbrev KOf{K:W.Frag}{h:Heap}(_:hZ!):W.Frag:=K
noncomputable def ki(s:Stmt):Arguments:=match s with
 | .FunctionDef _ a _ _ _ _ _ _ _ _=>a | _=>{posonlyargs:=[],args:=[],vararg:=none,kwonlyargs:=[],kw_defaults:=[],kwarg:=none,defaults:=[]}
noncomputable def xS(s:Stmt):ny!:=match s with
 | .FunctionDef _ _ b _ _ _ _ _ _ _=>b | _=>[]
noncomputable def zm(s:Stmt):Scope:=match s with
 | .FunctionDef _ _ _ _ _ _ sc _ _ _=>sc | _=>{kind:=sc!,names:=[],isGenerator:=false,isCoroutine:=false}
noncomputable abbrev CX0:CXT:=λ_ _ _ _ _ _=>nd!
abbrev E0:XK:=fx! nd!
theorem zkA: Passes CX0 X E0:=λ_ _ _ _ _ _ _ h=>h.elim
structure Fun(K:W.Frag)(x qual:Str)(st:Stmt)(f:Addr)(fd:FuncData):k! where
 ex:∃(oc:Value)(od:Option Addr)(kV aE pm:Value)(an:Option Addr)(aj ct:Value)(cD:Array (Option Value)), fd=W.fnOf x at! (ki st) h2! c6! aa! kV aE pm an aj ct/\mZ! f=b! ⟨oc,od,.func fd,cD⟩/\W.codeIn K aj at!=d!
 kp:oV! K f=d!
section
variable {P:Program}{w:World}{K:W.Frag}{mg:Str->aL!}{base:Heap}
theorem Fun.ok{x qual:Str}{st:Stmt}{f:Addr}{fd:FuncData}{N ps:ao!}{k:Nat}{sp:Sp}(F:Fun K x at! st f fd)(S:S! N ps st)(len:∀vs H Q E,sp vs H Q E->mw!) (bf:∀(aj:Value)(A:Around)(outer:List Env)(s:Shared)(H:Hp)(vs:List V)(Q:VK)(E:XK),z2z k (kd! at! c6! f aj)->sp vs H Q E-> ∃t,PSs (z5v CX0 P w K mg R! N at! c6! f aj A as! s H E).nox h2! t/\t {nx:=λ_ H'=>Q an! H',rt:=Q} (o9! N) H):z9Z P w K mg R! CX0 (k+1) f fd ps sp:=by
 obtain⟨oc,od,kV,aE,pm,an,aj,ct,cD,rfl,lk,bz⟩:=F.ex;refine zpe lk bz S len λA outer s H vs Q E hr cE=>?_;obtain⟨t,h,q⟩:=bf aj A as! s H vs Q E hr cE;exact aN! t h.nox q
theorem Fun.binds{x qual:Str}{st:Stmt}{f:Addr}{fd:FuncData}{ps:ao!}(F:Fun K x at! st f fd) (h:rN! (na!=a2!) (qn! (W.fnOf x at! (ki st) h2! c6! aa! kV aE pm an aj ct) (dN! us)=dY! lV!)):km! K ps []:=by
 obtain⟨oc,od,kV,aE,pm,an,aj,ct,cD,rfl,lk,bz⟩:=F.ex;exact .all (h kV aE pm an aj ct)
theorem zqU{st:Stmt} {kV aE pm aj ct:Value}(l:mZ! f=b! ⟨oc,od,.func (W.fnOf x at! (ki st) h2! c6! aa! kV aE pm an aj ct),cD⟩) (c:W.codeIn K aj at!=d!)(k:oV! K f=d!):Fun K x at! st f (W.fnOf x at! (ki st) h2! c6! aa! kV aE pm an aj ct):=aw! ⟨oc,od,kV,aE,pm,an,aj,ct,cD,rfl,l,c⟩ k
end
end L2
set_option maxHeartbeats 4000000
namespace L2
noncomputable def zdw(env:Env):dL! lr!->dL! l7!->dL! l7!
 | [],acc=>acc | (n,k)::r,acc=>zdw env r (al! (k==bV!) (match env.cells.lookup n with | some c=>(n,c)::acc | none=>acc) acc)
theorem z7M: sm! (∀x c,acc.lookup x=b! c->env.cells.lookup x=b! c) (∀x c,jF! (zdw env hg! acc) x c->env.cells.lookup x=b! c)
 | [],acc,ha=>ha | (n,k)::r,acc,ha=>by
  refine z7M r _ λx c=>?_;split
  ·split
   ·rename_i c' hc;intro h;rw[_V]at h;split at h
    ·rename_i hb;cases h;rw[jm! hb];exact hc
    ·exact ha x c h
   ·exact ha x c
  ·exact ha x c
theorem zc3: sm! (gl! (acc.lookup x)=d!) (gl! (n6! (zdw env hg! acc) x)=d!)
 | [],acc,ha=>ha | (n,k)::r,acc,ha=>by
  refine zc3 r _ ?_;split
  ·split
   ·rw[_V];split;·rfl
    ·exact ha
   ·exact ha
  ·exact ha
theorem z9w: sm! ((x,h8!)∈hg!) ((∃c,env.cells.lookup x=b! c)->∃c,jF! (zdw env hg! acc) x c)
 | [],acc,h,_=>nomatch h | (n,k)::r,acc,h,hc=>by
  rcases dE! h with e | h
  ·cases e;obtain⟨c,hc⟩:=hc;unfold zdw;rw[hc];exact Option.isSome_iff_exists.mp (zc3 r _ (by simp))
  ·exact z9w r _ h hc
theorem z8I(f:Str×lr!->dL! l7!->Sem (ForInStep (dL! l7!))) (hf:∀n k cs,f (n,k) cs=al! (k==bV!) (do let a <- cellOf env n;dY! (.yield ((n,a)::cs))) (dY! (.yield cs))): sm! (∀y∈names,y.2=bV!->∃c,env.cells.lookup y.1=b! c) (forIn hg! acc f=dY! (zdw env hg! acc))
 | [],acc,_=>rfl | (n,k)::r,acc,h=>by
  rw[List.forIn_cons,hf];have ih:=λgZ=>z8I f hf r gZ (cs! (h y (_H _ hy)));unfold zdw;by_cases hk:k=bV!
  ·subst hk;obtain⟨c,hc⟩:=h (n,bV!) _al rfl;have cA := hc;have e:cellOf env n=dY! c:=by unfold cellOf;rw[cA]
   rw[e,cA];exact ih _
  ·have hb:(k==h8!)=t!:=by simpa using hk
   rw[hb];exact ih _
theorem z0o(h:∀y∈scope.names,y.2=bV!->∃c,env.cells.lookup y.1=b! c):closureFor by! env=dY! (oK! env []):=by
 simp only[closureFor];rw[z8I _ (λn k cs=>by cases hk:k==h8!<;>rfl) lt! [] h];rfl
theorem qN:∀(names:List (Str×NameKind))(n:Nat)(acc:List (Str×Addr)),sg! n hg! acc=sg! n hg! []++acc
 | [],_,_=>rfl | (x,k)::r,n,acc=>by
  unfold cellsFrom;split
  ·rw[qN r (n+1) ((x,n)::acc),qN r (n+1) [(x,n)]];simp
  ·exact qN r n acc
theorem z05: ∀(names:List (Str×NameKind))(n:Nat)(acc:List (Str×Addr)),(x,c)∈sg! n hg! acc->(x,c)∈acc\/(x,NameKind.cell)∈hg!
 | [],_,_,h=>z! h | (y,k)::r,n,acc,h=>by
  unfold cellsFrom at h;split at h
  ·rename_i hk;rcases z05 r _ _ h with q | q
   ·rcases dE! q with e | q
    ·cases e;refine T! ?_;rw[(jm! hk)];exact _al
    ·exact z! q
   ·exact T! (_H _ q)
  ·rcases z05 r _ _ h with q | q;·exact z! q
   ·exact T! (_H _ q)
noncomputable def zlh(X:Cx)(scope:Scope)(C:Addr):Env:= {scope:=relabel by! aT!,locals:=C,globals:=X.env.globals,cells:=mr! (C+1) []++oK! aT! [],qual:=X.env.qual,func:=none,code:=X.env.code,frame:=X.env.frame,builtins:=X.env.builtins}
noncomputable def yf(X:Cx)(N':ao!)(scope:Scope)(ex:bi!)(s:Shared)(H:Hp):Cx where
 prog:=X.prog;w:=X.w;K:=X.K;mg:=X.mg;base:=X.base;A:=X.A;N:=N';s₀:=s;H₀:=H;env:=zlh X by! ar!;outer:=X.stack;stack:=X.stack;ex:=ex;fn:=λx=>jT! x==dz!;calm:=X.calm;pn:=[];xe:=iP!
theorem z20{env:Env}{x:Str}{k:NameKind}:∀{names:List (Str×NameKind)},names.lookup x=b! k-> jF! (names.map λ(n,k)=>al! (k==h8!&&mC!&&mx!==dz!) (n,NameKind.cell) (n,k)) x k\/ (k=bV!/\n6! (names.map λ(n,k)=>al! (k==h8!&&mC!&&mx!==dz!) (n,NameKind.cell) (n,k)) x=dz!)
 | [],h=>by cases h | (n,k')::r,h=>by
  have ih:=@z20 env x k r;show r6! ((aF! (k'==h8!&&mC!&&mx!==dz!) (n,NameKind.cell) (n,k'))::_)=_\/(_/\r6! ((aF! (k'==h8!&&mC!&&mx!==dz!) (n,NameKind.cell) (n,k'))::_)=_);cases hx:x==n with
  | true=>
   simp only[_V,hx]at h;cases h;by_cases hc:(k==h8!&&mC!&&mx!==dz!)=d!
   ·rw[_h hc];simp only[_R,_az]at hc;exact em! hc.1.1 (by simp[_V,hx])
   ·rw[_o hc];exact z! (by simp[_V,hx]) | false=>
   simp only[_V,hx]at h;by_cases hc:(k'==h8!&&mC!&&mx!==dz!)=d!;·rw[_h hc];simp only[_V,hx];exact ih h
   ·rw[_o hc];simp only[_V,hx];exact ih h
theorem kh{env:Env}{x:Str}{k:NameKind}:∀{names:List (Str×NameKind)}, jF! (names.map λ(n,k)=>al! (k==h8!&&mC!&&mx!==dz!) (n,NameKind.cell) (n,k)) x k->(k=.cell\/k=bV!)->(x,NameKind.cell)∈hg!\/(x,h8!)∈hg!
 | [],h,_=>by cases h | (n,k')::r,h,hk=>by
  change r6! ((aF! (k'==h8!&&mC!&&mx!==dz!) (n,NameKind.cell) (n,k'))::_)=_ at h;have step:(r6! (ni! (λ(n,k)=>al! (k==h8!&&mC!&&mx!==dz!) (n,NameKind.cell) (n,k)))=b! k)->(x,NameKind.cell)∈(n,k')::r\/(x,h8!)∈(n,k')::r:=λq=> ((@kh env x k r) q hk).elim (λz=>z! (_H _ z)) λz=>T! (_H _ z);by_cases hc:(k'==h8!&&mC!&&mx!==dz!)=d!
  ·rw[_h hc,_V]at h;split at h
   ·rename_i hb;simp only[_R,_az]at hc;rw[jm! hb,hc.1.1];exact T! _al
   ·exact step h
  ·rw[_o hc,_V]at h;split at h
   ·rename_i hb;cases h;rw[jm! hb];rcases hk with rfl | rfl;·exact z! _al
    ·exact T! _al
   ·exact step h
noncomputable def inner(mp:eY!)(O:St):St:=mp.map λo=>match o with | some j=>(O[j]?).getD a! | none=>none
noncomputable def zaU(N:ao!)(names:dL! lr!):ao!->eG! eY!
 | [],[]=>true | _::r,none::mp=>zaU N hg! r mp | x::r,some j::mp=>N[j]? == fk!&&names.lookup x==b! bV!&&zaU N hg! r mp | _,_=>false
theorem z9G: ∀{N':List Str} {mp:List (Option Nat)},zaU N hg! N' mp=d!->mp.length=N'.length
 | [],[],_=>rfl | _::r,none::mp,h=>_aM (· + 1) (z9G (N':=r) (mp:=mp) h) | _::r,some _::mp,h=>_aM (· + 1) (z9G (N':=r) (mp:=mp) (nj! h).2) | [],none::_,h=>by cases h | [],some _::_,h=>by cases h | _::_,[],h=>by cases h
theorem ze7: ∀{N':List Str} {mp:List (Option Nat)} {i j:Nat} {x:Str},zaU N hg! N' mp=d!->am! N' x->am! mp (b! j)->G! N j x/\names.lookup x=b! bV!
 | [],_,_,_,_,_,h,_=>by cases h | _::_,[],_,_,_,_,_,h=>by cases h | _::_,none::_,0,_,_,_,_,h=>by cases h | _::_,some _::_,0,_,_,h,h1,h2=>by
  have h:=nj! (nj! h).1;simp at h1 h2;subst h1 h2;exact⟨jm! h.1,jm! h.2⟩ | _::r,none::mp,i+1,_,_,h,h1,h2=>ze7 (N':=r) (mp:=mp) h (by exact h1) (by exact h2) | _::r,some _::mp,i+1,_,_,h,h1,h2=>ze7 (N':=r) (mp:=mp) (nj! h).2 (by exact h1) (by exact h2)
section
variable {X:Cx}{ae:dh!}{O:St}{H:Hp}{s s1:Shared}{scope:Scope}{N':ao!}{ex:bi!}{mp:eY!}
theorem zg7{α:b4!} {l1 l2:dL! α}{c:α}(h:jF! (l1++l2) x c):l1.lookup x=b! c\/(l1.lookup x=a!/\l2.lookup x=b! c):=by
 rw[_bP]at h;cases e:l1.lookup x with
 | some d=>rw[e]at h;exact z! h | none=>rw[e]at h;exact em! rfl h
theorem zgb(I:L!)(aV:kc!)(aR:∀y∈scope.names,jT! y.1=b! y.2) (aI:∀y∈scope.names,y.2=bV!->fT! y.1=dz!\/fT! y.1=b! bV!)(aX:ku! N' mp=d!) (cf:∀b∈ex,b<ar!/\e7!/\iN! b/\b∉ji!/\(b∈ll!\/X.s₀.heap.objs.size<=b)/\(∀x c,gR! x c->c≠b)) (e1:qi!=rO! (h7! ({cls:=j7!,data:=lv! #[]})))(e2:s1.os=s.os)(e3:s1.gens=s.gens): Inv cA! [] h3! H s1:=by
 have keep:bD! (dp! b->s1.heap.get? b=b! o):=gJ! (by rw[e1];exact pushCells_keeps _ _ b o (_g _ e))
 have ok:=cellsFrom_ok lt! (h7! ({cls:=j7!,data:=lv! #[]})) dU! [] ⟨λ_ _ hm=>(nomatch hm),List.Pairwise.nil⟩ (by rw[_aI];exact ak!);rw[_aI,<- e1]at ok;have eW:∀x c,jF! (oK! aT! []) x c->gR! x c:=z7M lt! [] (λx c h=>by cases h);have j7:∀x c,gR! x c->c<ar!:=λx c h=>by obtain⟨v,q⟩:=nE! x h;exact q.lt
 have own := λx c h=>ok.empty x c (_ap h);have zmH:∀x c,(zlh X by! ar!).cells.lookup x=b! c->(jF! (mr! dU! []) x c/\s1.heap.IsCell c a!/\dU!<=c)\/(gR! x c):=λx c h=>by
  rcases zg7 h with q | ⟨_,q⟩;·exact z! ⟨q,own x c q⟩
  ·exact T! (eW x c q)
 refine⟨⟨I.ok.mod,aV,I.ok.glob,I.ok.blt,ak!,λx y c h1 h2=>?_,ah! ?_,λx c hf h=>?_,I.ok.hd,I.ok.frames,c4!,cr! ⟨_D (cf b hb).1,λx c h=>?_⟩,gJ! (I.bs b o e),_Z I.ok.bsz I.sz,λb o e hb=>?_,λb hb hf=>?_,I.stack,I.stkFree⟩, e2,by rw[e3];exact I.bare,Un.kept keep,?_,λx c h=>?_,mt! _,λx c h=>?_,bs! (cN! (show p∈([]) from hp) (by simp)),I.hok.kept keep,?_⟩
 ·rcases zmH x c h1 with⟨q1,_,l1⟩ | q1<;>rcases zmH y c h2 with⟨q2,_,l2⟩ | q2;·exact name_of_addr ok.apart (_ap q1) (_ap q2)
  ·exact kS! (_j (j7 y c q2) (_cZ l1)) _
  ·exact kS! (_j (j7 x c q1) (_cZ l2)) _
  ·exact I.ok.inj x y c q1 q2
 ·have hx':(x,NameKind.cell)∈lt!\/(x,h8!)∈lt!:=by
   rcases hx with hx | hx;·exact kh hx c4!
   ·exact kh hx (T! rfl)
  show ∃c,jF! (mr! dU! []++oK! aT! []) x c;rw[_bP];cases e:n6! (mr! dU! []) x with
  | some c=>exact cf! c | none=>
   rcases hx' with hx' | hx'
   ·obtain⟨c,q⟩:=z5P (aR (x,.cell) hx');rw[q]at e;cases e
   ·obtain⟨c,q⟩:=z9w lt! [] hx' (I.ok.has x (aI (x,bV!) hx' rfl));exact⟨c,by exact q⟩
 ·obtain⟨c',q⟩:=z5P (jm! hf);have h':jF! (mr! dU! []++oK! aT! []) x c:=h;rw[_bP,q]at h';have e := _J h';subst e;exact _bB (Nat.lt_of_succ_le (own x c' q).2)
 ·rcases zmH x c h with⟨_,_,l⟩ | q
  ·intro z;rw[z]at l;exact kS! (_j (cf b hb).1 (_cZ l)) _
  ·exact (cf b hb).2.2.2.2.2 x c q
 ·rcases (cf b hb).2.2.2.2.1 with z | z;·exact I.ok.noex b o e z
  ·exact kS! (_j (_j c8! I.ok.bsz) z) _
 ·rcases dE! (I.stkSub b hf) with z | z;·exact (cf b hb).2.2.1 z
  ·exact (cf b hb).2.2.2.1 z
 ·refine⟨λ_=>a!,?_,λi x v h1 h2 h3=>?_⟩
  ·rw[e1];exact (Heap.Ns.new I! j7!).keeps (pushCells_keeps _ _)
  ·have ci := h2;unfold inner at ci;rw[_C]at ci;cases em:mp[i]? with
   | none=>rw[em]at ci;cases ci | some o=>
    rw[em]at ci;cases o with
    | none=>cases ci | some j=>
     obtain⟨hj,hl⟩:=ze7 aX h1 em;have eX := _ap hl;obtain⟨m,hn,eY⟩:=I.loc;have kx := aI _ eX rfl;obtain⟨u,r,L⟩:=eY j x v hj (by
      simp only[_ah]at ci;cases eO:O[j]? with
      | none=>rw[eO]at ci;cases ci | some o=>rw[eO]at ci;exact ci) (by rcases kx with k | k;exact T! (z! k);exact ig! k);refine⟨u,r,T! ?_⟩;rcases L with⟨k,_⟩ | ⟨_,c,hc,bS⟩;·rcases kx with k' | k'<;>(rw[k]at k';cases k')
     ·refine⟨?_,c,?_,bS.keeps keep⟩
      ·rcases z20 hl with q | ⟨_,q⟩;·exact T! q
       ·exact z! q
      ·show jF! (mr! dU! []++oK! aT! []) x c;rw[_bP];cases e:n6! (mr! dU! []) x with
       | some c'=> exact cN! ((z05 _ _ _ (_ap e)).resolve_left (by simp)) (λz=>by
       have a:=aR _ z;rw[hl]at a;cases a) | none=>
        obtain⟨c2,q⟩:=z9w lt! [] eX ⟨c,hc⟩;have q2:=eW x c2 q;rw[hc]at q2;cases q2;exact q
 ·rcases zmH x c h with⟨_,q,_⟩ | q;·exact gy! q
  ·obtain⟨v,z⟩:=nE! x q;exact⟨v,z.keeps keep⟩
 ·rcases zmH x c h with⟨_,_,l⟩ | q;·exact sf! (by lia)
  ·exact I.freeC x c q
 ·unfold inner;rw[_X];exact z9G aX
end
section
variable {M:Model}{A:Around}{E:bX!}{s:Shared}
theorem ze5(h:Q {scope:=scope,locals:=s.heap.objs.size,globals:=env.globals,cells:=mr! dU! cl,qual:=env.qual,func:=none,code:=env.code,frame:=env.frame,builtins:=env.builtins} {s with heap:=rO! (h7! ({cls:=j7!,data:=lv! #[]}))}): fJ! M A (newFunctionEnv by! env.globals cl [] env.qual a! aa! (b! env)) Q E:=by
 refine _a (wpAny_alloc (_a (wpAny_layCells _ (λname kind cells=>by cases hkc:kind==NameKind.cell<;>simp[hkc]) _ _ _ _ ?_)));rw[(_aI ..)];exact _a (_m (_m h))
end
section
variable {prog:Program}{w:World}{A:Around}{E:bX!}{R:Result->ey!}{s:Shared}
theorem zbx(I:Nat->ey!) (turn:∀n s,I n s->cF! w A (pf! it) (λr s₁=>match r with
   | none=>R (.ok .next) jk! | some v=>cF! w A (letOwnedTupleGo bA it v) (λ_ j8=>cF! w A (assign bA env v) (λ_ s₂=> cF! w A (forIn aC d! λc r=>aF! r (do let ok <- qf! c env (kf! c);sr! ok) (sr! r)) (λok s₃=> aF! ok (cF! w A (kf! az) (λx s₄=> cF! w A (p0! "list.append" [acc,x]) (λ_ s₅=>∃m,m<n/\I m s₅) iP! s₄) iP! s₃) (∃m,m<n/\I m s₃)) iP! ma!) iP! j8) iP! jk!) iP! s) (n:Nat)(h:I n s): kC! h4! A (.compLoop (gd! [⟨bA,h6!,aC,0⟩]) 0 it acc env) R s:=by
 refine codeAny_loop rfl I (λn s hI=>(wpAny_noted ?_)) n h;refine _a (_cf (_a (_aa (turn n s hI) (λr s₁ h₁=>?_) rm!)));cases r with
 | none=>exact _m h₁ | some v=>
  refine _a (_aa h₁ (λ_ j8 mW=>(_a (_aa mW (λ_ s₂ h₂=>_a (_aa h₂ (λok s₃ h₃=>?_) rm!)) rm!))) rm!);cases ok with
  | false=>exact _m (fc! h₃) | true=> exact _a (_a (_aa h₃ (λx s₄ h₄=>_a (_aa h₄ (λ_ s₅ h₅=>_m (_m (fc! h₅))) rm!)) rm!))
end
def zd8(X:Cx)(aC:aD!)(t:TT):k!:= ∀(ae:List (Addr×Obj))(s:Shared)(O:St)(H:Hp)(Q:Bool->Hp->Prop),L!->t O H Q-> bO! (forIn aC d! λc r=>aF! r (do let ok <- qf! c aT! (hk! c);sr! ok) (sr! r)) (TP X ae O Q) s
theorem zl2: zd8 X [] (λ_ H Q=>Q d! H):=pe! (wpAny_tests_nil ⟨H,I,h⟩)
theorem zlg(h:PT X c t):zd8 X [c] t:=λae s O H Q I hq=>wpAny_tests_one (h ae s O H Q I hq)
theorem Inv.track{O:St} (I:L!)(f:zcM X ae H a)(new:kF aO! X.w (hb! o) I! a o):cQ! (hb! o) s:=by
 obtain⟨f0,f1,f2,f3,f4,f5⟩:=f;exact I.step (ch:=[a]) (cr! (by
  have e:b=a:=by simpa using hb
  subst e;exact⟨f3,f1,f4,f5⟩)) (λb o _ _ _ e _=>e) (λb o _ _ _ e _=>dv! o.slots) (λb o hb _ n=>by rw[zM (λz=>hb (by simp[z]))];exact n) (λb o _ e=>dv! o) (λb xs q=>by rw[zM (xz q f0)];exact q) (λb u xs q=>by rw[zM (xz q f0)];exact q) (λb ps q=>⟨#[],by rw[zM (xz q f0),q];rfl⟩) (λ_ q=>q) (λb u e=>by
  by_cases hb:b=a;·subst hb;rw[yB]at e;cases e;exact new
  ·rw[zM hb]at e;exact (nZ! b u e).stay (λ_ _ _ q=>q) (λc q=>by rw[zM (xz q f0)];exact q) λc xs q=>by rw[zM (xz q f0)];exact q) I.bare
def zlf(wi:TI)(mp:eY!)(g:TG)(ti:TT)(te:TE):TE:=gL! (wi O H λJ H1=>∃W:Nat->Nat->List V->Hp->Prop,(∃m,W 0 m [] H1)/\∀i m ys H,W i m ys H-> (J.stop i H/\oL!/\∀p,gG!->Q cn! (fP! hW!))\/ (J.go i H/\∀x H',J.yld i H x H'->g x h3! H' λO2 H2=>(O2.length=v! h3!/\∀(i:Nat) v,am! h3! bB!->am! O2 bB!)/\ ti O2 H2 λb H3=>aF! b (te O2 H3 λy H4=>oL!/\∃m',m'<m/\W (i+1) m' (ys++[y]) H4) (∃m',m'<m/\W (i+1) m' ys H3)))
def z5O(X:Cx)(ae:dh!)(O:St)(C:Addr)(Q:VK)(acc:Value)(s':Shared):k!:= ∃v Hf,cQ! Hf s'/\wV v acc/\Q v Hf/\(∃m,s'.heap.Ns C m)/\zcM X ae Hf C
theorem zk7{gens:ee! Comprehension}{O:St} {RR:dX!->l7!->Result->ey!} (aV:kc!)(aR:∀y∈scope.names,jT! y.1=b! y.2) (aI:∀y∈scope.names,y.2=bV!->fT! y.1=dz!\/fT! y.1=b! bV!)(aX:ku! N' mp=d!) (I2:cQ! H2 ma!)(T:zkf aO! X.w X.K tg J fp it tn)(bn:tn 0 s₂.heap)(f2:∀b∈fp,zcM X ae H2 b) (go:∀(acc:Addr)(s₃ s₄:Shared),cQ! H2 s₃->H2 acc=a!->zcM X ae H2 acc->(∀b∈fp,b<acc)->acc≠oc!-> Inv (ko! X (acc::fp) H2) [] h3! H2 s₄->s₄.heap.get? acc=b! (sh! [])->tn 0 s₄.heap-> (∀{H':Hp}{o:Obj},(∀b∈fp,ga! b)->∀b∈fp,zcM (ko! X (acc::fp) H2) [(acc,o)] H' b)-> (∀{P:List (Addr×Obj)}{O':St}{H':Hp}{s':Shared}{af:List Value},Inv (ko! X (acc::fp) H2) P O' H' s'->ga! acc->rU!=b! ka!->Inv (ko! X (acc::fp) H2) ([(acc,ka!)]++P) O' H' s')-> kC! (oQ! X.w) X.A (.compLoop (gd! (gE! 0::gens)) 0 kl! (u! acc) (zlh X by! oc!)) (RR (u! acc) oc!) s₄): lK! (newList []) (λacc s₃=>lK! (newFunctionEnv by! X.env.globals (oK! aT! []) [] X.env.qual a! aa! (b! aT!)) (λcH s₄=> kC! (oQ! X.w) X.A (.compStart (gd! (gE! 0::gens)) 0 kl! acc {cH with scope:=relabel by! aT!}) (RR acc cH.locals) s₄) E s₃) E ma!:=by
 refine _aG ?_;have dg := I2.hok.fresh ak!;have fA := I2.fpOk ak! dg;generalize bM:s₂.heap.objs.size=acc at dg fA ⊢;have I3:cQ! H2 ({s₂ with heap:=s₂.heap.push {cls:=dd!,data:=oX! ([]:c3!)}}):=I2.kept (lW! _ e);have mX:e5! (s₂.heap.push {cls:=dd!,data:=oX! ([]:c3!)}) acc (sh! []):=by rw[<- bM];exact g9!
 have mY:eg! (s₂.heap.push {cls:=dd!,data:=oX! ([]:c3!)})=acc+1:=by rw[_aI,bM]
 have mZ:bD! (s₂.heap.get? b=b! o->e5! (s₂.heap.push {cls:=dd!,data:=oX! ([]:c3!)}) b o):=lW! _ e;generalize dh:({s₂ with heap:=s₂.heap.push {cls:=dd!,data:=oX! ([]:c3!)}}:nW!)=s₃ at I3 ⊢;have g9:s₃.heap.get? acc=b! (sh! []):=by rw[<- dh];exact mX
 have cW:oc!=acc+1:=by rw[<- dh];exact mY
 have hJ:bD! (s₂.heap.get? b=b! o->s₃.heap.get? b=b! o):=by rw[<- dh];exact mZ
 have flt:∀b∈fp,b<acc:=cr! (by
  obtain⟨o,e,_⟩:=T.obj 0 _ bn b hb;rw[<- bM];exact c8!)
 have hR := cr! (_D (flt b hb));have m3 := T.keep 0 _ _ bn (pg! (hJ b o e));refine ze5 ?_;rw[qN];have I4:=zgb (s1:={s₃ with heap:=rO! (s₃.heap.push {cls:=j7!,data:=lv! #[]})}) I3 aV aR aI aX (cr! (by
  rcases dE! hb with z | hb
  ·subst z;exact⟨by rw[cW];exact _cb _,dg,fA.2.1,fA.2.2.1,fA.2.2.2.1,fA.2.2.2.2.1⟩
  ·have q:=f2 b hb;exact⟨by rw[cW];exact _aW (flt b hb),q.1,q.2.1,q.2.2.1,q.2.2.2.1,q.2.2.2.2.1⟩)) rfl rfl rfl;have j9:bD! (s₃.heap.get? b=b! o->e5! (rO! (s₃.heap.push {cls:=j7!,data:=lv! #[]})) b o):=gJ! (pushCells_keeps _ _ b o (_g _ e));generalize hs4:({s₃ with heap:=rO! (s₃.heap.push {cls:=j7!,data:=lv! #[]})}:nW!)=s₄ at I4 ⊢;have hY:s₄.heap.get? acc=b! (sh! []):=by rw[<- hs4];exact j9 _ _ g9
 have gi:tn 0 s₄.heap:=T.keep 0 _ _ m3 (pg! (by rw[<- hs4];exact j9 b o e))
 have eZ:acc≠oc!:=by rw[cW];exact _D (_cb _)
 have cI := cr! (I4.ok.exf b hb).2;have bC:∀{H':Hp}{o:Obj},(∀b∈fp,ga! b)->∀b∈fp,zcM (ko! X (acc::fp) H2) [(acc,o)] H' b:=λ{H' o} hn b hb=> ⟨hn b hb,_D (by show b<oc!;rw[cW];exact _aW (flt b hb)),λhf=>I4.ok.exfs b (_H _ hb) hf,z! (_H _ hb),cI b (_H _ hb),bs! (by
   have e:p=(acc,o):=by simpa[yf] using hp
   rw[e];exact _bN (hR b hb))⟩;have ib:∀(af:List Value)(v:Option Value),(ka!).data≠.cell v:=λaf v z=>by
  have z' := z;cases z'
 have dI:∀{P:List (Addr×Obj)}{O':St}{H':Hp}{s':Shared}{af:List Value},Inv (ko! X (acc::fp) H2) P O' H' s'->ga! acc->rU!=b! ka!->Inv (ko! X (acc::fp) H2) ([(acc,ka!)]++P) O' H' s':=λ{P O' H' s' af} J' n' e'=> J'.pins_of (bs! (by
   rcases l9! hp with hp | hp
   ·have e:p=(acc,ka!):=by simpa using hp
    subst e;exact⟨e',n',eZ,λhf=>I4.ok.exfs acc _al hf,ib af⟩
   ·exact J'.pin p (_N _ hp)))
 have loop:=go acc s₃ s₄ I3 dg fA flt eZ I4 hY gi bC dI;exact codeAny_compStart_list loop (T.self _ 0 _ _ _ gi loop)
theorem z40{O:St} {RR:dX!->l7!->Result->ey!} (hc:bW!)(hg:lT! cA! tg g)(ht:lR! cA! aC ti)(he:∀ex s H,PE cA! az te) (aV:kc!)(aR:∀y∈scope.names,jT! y.1=b! y.2) (aI:∀y∈scope.names,y.2=bV!->fT! y.1=dz!\/fT! y.1=b! bV!)(aX:ku! N' mp=d!) (I2:cQ! H2 ma!)(T:zkf aO! X.w X.K tg J fp it tn)(bn:tn 0 s₂.heap)(f2:∀b∈fp,zcM X ae H2 b) (W:Nat->Nat->aM!->cz!)(w0:∃m,W 0 m [] H2) (turn:∀i m ys H,W i m ys H-> (J.stop i H/\oL!/\∀p,gG!->Q cn! (fP! hW!))\/ (J.go i H/\∀x H',J.yld i H x H'->g x h3! H' λO2 H2=>(O2.length=v! h3!/\∀(i:Nat) v,am! h3! bB!->am! O2 bB!)/\ ti O2 H2 λb H3=>aF! b (te O2 H3 λy H4=>oL!/\∃m',m'<m/\W (i+1) m' (ys++[y]) H4) (∃m',m'<m/\W (i+1) m' ys H3))) (m4:∀acc C s',z5O X ae O C Q acc s'->RR acc C (.ok .next) s'): lK! (newList []) (λacc s₃=>lK! (newFunctionEnv by! X.env.globals (oK! aT! []) [] X.env.qual a! aa! (b! aT!)) (λcH s₄=> kC! (oQ! X.w) X.A (.compStart (gd! [gE! 0]) 0 kl! acc {cH with scope:=relabel by! aT!}) (RR acc cH.locals) s₄) E s₃) E ma!:=by
 refine zk7 aV aR aI aX I2 T bn f2 λacc s₃ s₄ I3 dg fA flt eZ I4 hY gi bC e9=>?_;have hR := cr! (_D (flt b hb));have cI := cr! (I4.ok.exf b hb).2;have dI:∀{O':St}{H':Hp}{s':Shared}{af:List Value},Inv (ko! X (acc::fp) H2) [] O' H' s'->ga! acc->rU!=b! ka!->Inv (ko! X (acc::fp) H2) [(acc,ka!)] O' H' s':=e9;obtain⟨m0,w0⟩:=w0;have loop:kC! (oQ! X.w) X.A (.compLoop (gd! [gE! 0]) 0 kl! (u! acc) (zlh X by! oc!)) (RR (u! acc) oc!) s₄:=by
  refine zbx (λn s'=>∃i ys af H',Inv (ko! X (acc::fp) H2) [] h3! H' s'/\tn i gK!/\(∀b∈fp,ga! b)/\ga! acc/\rU!=b! ka!/\xw ys af/\W i n ys H') ?_ m0 ⟨0,[],[],H2,I4,gi,cr! (f2 b hb).1,dg,hY,cB!,w0⟩;rintro n s5 ⟨i,ys,af,H5,I5,k4,n5,ic,m5,gn,w5⟩;have k6:=dI I5 ic m5;rcases turn i n ys H5 w5 with⟨stop,hz,q⟩ | ⟨go,step⟩
  ·refine kW! (T.done (ko! X (acc::fp) H2) rfl rfl rfl hc i _ s5 _ H5 iP! k6 (bC n5) k4 stop) (λr s6 ⟨hr,I6⟩=>?_) z;subst hr;have m6:=(I6.pin (acc,ka!) (by simp)).1;have un := I6.base;have I7 := I3.call' (I6.os) un I6.hok I6.bare (cr! (by
    rcases dE! hb with z | hb;·subst z;exact⟨fA.2.2.2.1,fA.2.1,fA.2.2.2.2.1,fA.2.2.2.2.2⟩
    ·exact⟨(f2 b hb).2.2.2.1,(f2 b hb).2.1,(f2 b hb).2.2.2.2.1,(f2 b hb).2.2.2.2.2⟩))
   have C7 := I3.fpOk ak! I6.free;refine m4 _ _ s6 ⟨u! acc,upd H5 acc hW!,I7.track ⟨ic,fA.2⟩ ?_,rfl,q acc ic,?_,?_,C7.2⟩;·exact⟨hz,af,_,gn,m6⟩
   ·obtain⟨m,hm,_⟩:=I6.loc;exact aw! m hm
   ·rw[zM (_bN eZ)];exact I6.free
  ·refine kW! (T.item (ko! X (acc::fp) H2) rfl rfl rfl hc i _ s5 _ H5 iP! k6 (bC n5) k4 go) (λr s6 ⟨u,hr,h6⟩=>?_) z;subst hr;refine kW! h6 (λ_ s7 ⟨x,H7,I7,r7,y7,ie,n7⟩=>?_) z;have m7:=I7.pinned (bC n7) (T.obj _ _ ie);refine kW! (hg _ _ _ _ s7 h3! H7 x u _ m7 r7 (step x H7 y7)) (λ_ s8 ⟨O8,H8,I8,⟨kl,kv⟩,q8⟩=>?_) z;refine kW! (ht _ _ _ _ s8 O8 H8 _ I8 q8) (λb s9 ⟨H9,I9,q9⟩=>?_) z;have ff:∀{O':St}{H':Hp}{s':Shared},Inv (ko! X (acc::fp) H2) ([(acc,ka!)]++zcu fp s7.heap) O' H' s'->(∀b∈fp,ga! b)/\ga! acc/\rU!=b! ka!/\tn (i+1) gK!/\∀b∈fp,∀o,s7.heap.get? b=b! o->sx!=b! o:=λ{O' H' s'} J'=>by
    have z:=J'.pin (acc,ka!) (by simp[yf]);have zz:∀b∈fp,∀o,s7.heap.get? b=b! o->sx!=b! o/\ga! b:=pg! (by
     have y:=J'.pin (b,o) (_N _ (_N _ (kS hb e)));exact aw! y.1 y.2.1)
    refine⟨cr! ?_,z.2.1,z.1,T.keep _ _ _ ie (pg! (zz b hb o e).1),pg! (zz b hb o e).1⟩;obtain⟨o,e,_⟩:=T.obj _ _ ie b hb;exact (zz b hb o e).2
   cases b with
   | false=>
    rw[_o (by decide)]at q9 ⊢;obtain⟨m',lt,w9⟩:=q9;obtain⟨z1,z2,z3,z4,_⟩:=ff I9;exact⟨m',lt,i+1,ys,af,H9,(I9.pins_of (bs! (cN! hp (by simp)))).weak kl.symm kv,z4,z1,z2,z3,gn,w9⟩ | true=>
    rw[gx!]at q9 ⊢;refine kW! (he _ _ _ _ s9 O8 H9 _ I9 q9) (λyv m8 ⟨y,na,k7,nc,hz,m',lt,ng⟩=>?_) z;obtain⟨z1,z2,z3,z4,_⟩:=ff k7;have zl:iI!<=aS!:=by rw[_u,<- gn.length];exact hz
    refine append_at z3 λgq sb ig=>?_;have ii:=(k7.pins_of (pins':=[]) (bs! (cN! hp (by simp)))).weak kl.symm kv;have nh := ii.turned (t':=m8.toks) (kA! (bb! (sb.2 b hb) e)) z2 eZ (z! _al) (cI acc _al) (bs! (cN! hp (by simp[yf])));exact⟨m',lt,i+1,ys++[y],af++[yv],na,nh,T.keep _ _ _ z4 (pg! (bb! (sb.2 b (hR b hb)) e)),z1,z2,ig.trans (_aM some (LCg.lst_snoc af yv)),gn.append (eI! nc cB!),ng⟩
 exact loop
section
variable {X:Cx}{tg iter az:Expr}{aC:aD!}{scope:Scope}{pos aF py:Pos}{wi:TI}{g:TG}{ti:TT}{te:TE}{N':ao!}{mp:eY!}
theorem z2y{O:St} (I:L!)(f:zcM X ae H C)(sb:Heap.SameBut C I! h'):lI! ({s with heap:=h'}):= I.turned (kA! (bb! (sb.2 b hb) e)) f.1 f.2.1 f.2.2.2.1 f.2.2.2.2.1 f.2.2.2.2.2
theorem zhJ(N':ao!)(mp:eY!)(hc:bW!)(hi:PI X tg h6! wi)(hg:lT! cA! tg g)(ht:lR! cA! aC ti)(he:∀ex s H,PE cA! az te) (aV:kc!)(aR:∀y∈scope.names,jT! y.1=b! y.2) (aI:∀y∈scope.names,y.2=bV!->fT! y.1=dz!\/fT! y.1=b! bV!)(aX:ku! N' mp=d!) (hs:lb! (k4! x=la!)):V! (gd! [gE! 0]) (zlf wi mp g ti te):=by
 refine iF! (_bK rfl hs (z0o λy hy hf=>I.ok.has _ (aI y hy hf)) aV (λy hy hl=>by rw[aR y hy,hl]) (thn (hi ae s O H _ I h) λxv s₁ h₁=>thn h₁ λeN s₂ h₂=>?_));obtain⟨it,fp,tn,J,H2,e,I2,T,bn,f2,W,w0,turn⟩:=h₂;subst e;refine z40 hc hg ht he aV aR aI aX I2 T bn f2 W w0 turn ?_;rintro acc C s' ⟨v,Hf,I3,r,q,⟨m,hm⟩,f⟩;exact⟨m,hm,λh' sb=>⟨v,Hf,z2y I3 f sb,r,q⟩⟩
theorem zfZ(N':ao!)(mp:eY!)(hN:X.N.Nodup)(hy:f5! y)(cJ:rg! y) (hc:bW!)(hi:PI X tg h6! wi)(hg:lT! cA! tg g)(ht:lR! cA! aC ti)(he:∀ex s H,PE cA! az te) (aV:kc!)(aR:∀y∈scope.names,jT! y.1=b! y.2) (aI:∀y∈scope.names,y.2=bV!->fT! y.1=dz!\/fT! y.1=b! bV!)(aX:ku! N' mp=d!) (hs:lb! (k4! x=la!)) (cK:y! (mu! (gd! [gE! 0]) (b! ge!) qt!=rz!)) (hf:gT! (f3! y\/eU! y)): PS X (.Assign [ge!] (gd! [gE! 0]) aF) (zsE (zlf wi mp g ti te) (zfv i)):=by
 intro ae s O H D I h;rw[exec_Assign_Name_used _ _ _ _ cK];refine _a (_cf (_a (_a (_aa (_bK rfl hs (z0o λy hy hf=>I.ok.has _ (aI y hy hf)) aV (λy hy hl=>by rw[aR y hy,hl]) (thn (hi ae s O H _ I h) λxv s₁ h₁=>thn h₁ λeN s₂ h₂=>?_)) (λ_ s' hq=>_m (_m hq)) λ_ _ e=>e))));obtain⟨it,fp,tn,J,H2,e,I2,T,bn,f2,W,w0,turn⟩:=h₂;subst e;refine z40 (Q:=λv H'=>D.nx (lY! i) H') hc hg ht he aV aR aI aX I2 T bn f2 W w0 turn ?_;rintro acc C s' ⟨v,Hf,I3,r,q,⟨m,hm⟩,f⟩;exact _cU (z7C I3 hN hy cJ r (λeP I4 ⟨a,sb,ha⟩=>⟨m,hm.sameBut sb (by
  rcases ha with z | z;·rw[z];exact f.2.1
  ·exact _bN (f.2.2.2.2.1 y a z)),λh' ij=>⟨_,Hf,z2y I4 f ij,q⟩⟩) hf)
end
structure M2(X:Cx)(o:Expr)(m:Str)(ap:Pos)(e f:Expr)(ak:Pos):k! where
 base:lL! o m gC!=gC!
 few:(ht! (hO! ak [e,f]) (! x.1)&&ht! (nF! ak []) (gl! x.1) && a5! (v! ([e,f]:aD!)+v! ([]:gU!)+(nv! ([]:gU!) 0 1)<30))=d!
 line:pY!=d!
 trees:hO! ak [e,f]=[dW!,d1! f]
end L2
set_option maxHeartbeats 4000000
namespace Dd
open L2
theorem zez(xs:aD!)(k:Nat)(p:Pos)(es:aD!)(env:Env):gs! (hF! xs k p::es)=(t!,kf! (hF! xs k p))::gs! es:=rfl
theorem zkP(xs:aD!)(p:Pos)(es:aD!)(env:Env):gs! (.List xs p::es)=(t!,kf! (.List xs p))::gs! es:=rfl
theorem xx(f:Expr)(xs:aD!)(ks:gU!)(p:Pos)(es:aD!)(env:Env):gs! (fz! f xs ks p::es)=(t!,kf! (fz! f xs ks p))::gs! es:=rfl
theorem zkb(a:Expr)(o:Operator)(b:Expr)(p:Pos)(es:aD!)(env:Env):gs! (.BinOp a o b p::es)=(t!,kf! (.BinOp a o b p))::gs! es:=rfl
theorem uZ(a b:Expr)(p:Pos)(es:aD!)(env:Env):gs! (rE! b p::es)=(t!,kf! (rE! b p))::gs! es:=rfl
theorem zG(a:Expr)(g:ee! Comprehension)(sc:Scope)(p:Pos)(es:aD!)(env:Env):gs! (.ListComp a g sc p::es)=(t!,kf! (.ListComp a g sc p))::gs! es:=rfl
theorem z5L(a:Expr)(o:ee! CmpOp)(b:aD!)(p:Pos)(es:aD!)(env:Env):gs! (.Compare a o b p::es)=(t!,kf! (.Compare a o b p))::gs! es:=rfl
theorem z9h(c:Const)(j:Nat)(p:Pos)(es:aD!)(env:Env):gs! (jE! c p::es)=(t!,kf! (jE! c p))::gs! es:=rfl
theorem zu(x:Str)(p:Pos)(es:aD!)(env:Env):gs! (fe! p::es)=(t!,kf! (fe! p))::gs! es:=rfl
theorem zof(o:UnaryOp)(a:Expr)(p:Pos)(es:aD!)(env:Env):gs! (.UnaryOp o a p::es)=(t!,kf! (.UnaryOp o a p))::gs! es:=rfl
inductive D where | non | bl (b:Bool) | int (i:Int) | str (x:Str) | tup (xs:D!) | lst (xs:D!) | dct | loc (l:Nat) | dlo (l:Nat) | fn (x:Str) | exc (x:Str) | scr (xs:D!)
noncomputable abbrev Sto:=ee! D!
noncomputable abbrev Ev:=mp! D
inductive R(α:b4!) where | ok (a:α)(s:Sto) | ex (c:Str)(s:Sto) | no
noncomputable def R.bind(r:R α)(k:α->f4! β):R β:=match r with
 | .ok a s=>k a s | .ex c s=>dQ! | .no=>.no
@[simp] theorem R.bind_ok{α β:b4!}(a:α)(s:Sto)(k:α->f4! β):A! (eN! a s) k=k a s:=U!
noncomputable abbrev Rb:=@R.bind_ok
@[simp] theorem R.bind_ex(c:Str)(s:Sto)(k:α->f4! β):A! (R.ex c s:R α) k=dQ!:=U!
@[simp] theorem R.bind_no(k:α->f4! β):A! (R.no:R α) k=.no:=U!
noncomputable def D.flat:eG! D
 | .tup xs=>flats xs | .lst xs=>flats xs | .scr xs=>flats xs | .loc _=>false | .dlo _=>false | _=>true
where flats:eG! D!
 | []=>true | x::xs=>x.flat&&flats xs
theorem flN:dc! []:=U!
theorem flC:si! (x::xs)=(x.flat&&si! xs):=U!
noncomputable def zlW(C a:Addr):HO:=.ext λh=>∃o vs,cJ! a/\gk!=aR!/\h5!=eJ! vs
structure Gm where
 m:Str->aL!
 K:W.Frag
noncomputable abbrev gm(X:Cx):Gm:=aw! fw! X.K
def IsL(H:Hp)(a:Addr):k!:=∃vs,cq! bQ!
def IsC(H:Hp)(a:Addr):k!:=(∃ah,cq! le!)\/(∃o ah,cq! (d7! le!))\/(∃ah,a1! ah/\cq! g2!)\/∃o ah,cq! (d7! g2!)
def Own(H:Hp)(Y:bi!)(b:Addr):k!:=∃a∈Y,∃ah k,cq! g2!/\(k,mT!)∈ah
theorem IsL.notC(h:IsL H a)(h':IsC H a):False:=by obtain⟨_,e⟩:=h;rcases h' with⟨_,e'⟩ | ⟨_,_,e'⟩ | ⟨_,_,e'⟩ | ⟨_,_,e'⟩<;>rw[e]at e'<;>cases e'
noncomputable def zwe:Key->D
 | .inl i=>Y! | .inr x=>bY!
noncomputable def zwh:V->fG!
 | .int i=>e! i | .bl b=>b! hD! | _=>none
noncomputable def zuH:D!->gr! (ee! Key) V->k!
 | [],ah=>ah=[] | d::ds,ah=>∃k v x r,ah=(k,v)::r/\zwh v=fk!/\d=n! [n! (k.map zwe),x]/\zuH ds r
def KL(K:W.Frag)(a:Addr)(xs:aM!):k!:=∃(o:Obj)(af:Array Value)(n:Nat),oU!=b! o/\gk!=dd!/\o.dict=a!/\h5!=.seq af n/\af.size<=aS!/\xw xs pa!
section
variable (mg:Gm)
mutual
noncomputable def Den(H:Hp)(Y:bi!):D->V->k!
 | .non,v=>v=an! | .bl b,v=>v=hD! | .int i,v=>v=Y! | .str x,v=>v=bY! | .tup ds,v=>∃a vs,v=ag!/\cq! (n! vs)/\yp H Y ds vs | .lst ds,v=>∃a o vs,v=ag!/\cq! (d7! bQ!)/\yp H Y ds vs | .dct,v=>∃a,v=ag!/\cq! (.dK []) | .loc l,v=>∃a,v=ag!/\G! Y l a/\IsL H a | .dlo l,v=>∃a,v=ag!/\G! Y l a/\IsC H a | .fn x,v=>∃a,v=ag!/\mg.m x=a0! a | .exc x,v=>∃a C,v=ag!/\mg.m x=a0! C/\cq! (zlW C a) | .scr ds,v=>∃a vs,v=ag!/\((∃o,cq! (d7! bQ!))\/KL nk! a vs)/\yp H Y ds vs
noncomputable def yp(H:Hp)(Y:bi!):D!->aM!->k!
 | [],vs=>vs=[] | d::ds,vs=>∃v r,vs=v::r/\Den H Y d v/\yp H Y ds r
end
noncomputable def zgd(H:Hp)(Y:bi!):D!->gr! Key V->k!
 | [],ah=>ah=[] | d::ds,ah=>∃k ys b vs r,ah=(pc! k,mT!)::r/\oM! ys/\((d=n! [c! k,hW!]/\cY! bQ!)\/(d=ck! k hW! an!/\∃o,cY! (d7! bQ!)))/\zgd H Y ds r
def zqf(ys:D!):k!:=∀d∈ys,∃k zs,d=ck! k (W! zs) an!
def kT(H:Hp)(Y:bi!)(xs:D!)(a:Addr):k!:=(∃vs,cq! bQ!/\hu!)\/(∃ah,cq! le!/\zuH xs ah)\/(∃o ah ys,cq! (d7! le!)/\xs=an!::ys/\zuH ys ah)\/(∃ah,a1! ah/\cq! g2!/\zgd mg H Y xs ah)\/∃o ah ys,cq! (d7! g2!)/\xs=an!::ys/\zgd mg H Y ys ah/\zqf ys/\a1! ah
structure Rep(H:Hp)(Y:bi!)(s:Sto):k! where
 len:qu!=ct!
 nd:Y.Nodup
 cell:∀(l:Nat)(xs:List D),G! s l xs->∃a,G! Y l a/\kT mg H Y xs a
 flat:∀xs∈s,dc! xs
 own:∀b,Own H Y b->b∉Y
 uq:∀a∈Y,∀a'∈Y,∀ah br (i j:Nat) k k' b,cq! g2!->H a'=b! (.dK br)->am! ah (k,mT!)->G! br j (k',mT!)->a=a'/\i=j
structure vN(H:Hp)(Y:bi!)(H':Hp)(Y':bi!)(s':Sto):k! where
 rep:Rep mg H' Y' s'
 pre:Y <+: Y'
 keep:bD! (cY! o->b∉Y->(Own H Y b->∀vs,o≠bQ!)->H' b=b! o)
 new:∀a∈Y',a∉Y->H a=a!
 mt:∀a∈Y,(IsL H a/\IsL H' a)\/(IsC H a/\IsC H' a/\∀o u,cq! (d7! u)->H' a=b! (d7! u))
 dom:∀b,ga! b->e7!
 ow:∀b,Own H' Y' b->Own H Y b\/e7!
end
section
variable {mg:Gm}{H H' H1 H2:Hp}{Y Y' Y1 Y2:bi!}{s s' s1 s2:Sto}
theorem kT.kind(h:kT mg H Y xs a):IsL H a\/IsC H a:=nl! (λ⟨vs,e,_⟩=>dv! vs) (λh=>nl! (λ⟨k,e,_⟩=>dv! k) (λh=>nl! (λ⟨o,k,_,e,_⟩=>cy! k e) (λh=>nl! (λ⟨k,n,e,_⟩=>aN! k n e) (λ⟨o,k,_,e,_⟩=>cy! k e))))
theorem Rep.mt(r:cZ!):∀a∈Y,IsL H a\/IsC H a:=λa ha=>by
 obtain⟨l,hl,e⟩:=gM! ha;have eK:l<ct!:=by rw[<- r.len];exact hl
 obtain⟨b,e1,c⟩:=qv! l (s[l]) (_b eK);rw[_b hl]at e1;rw[<- e,(_J e1)];exact c.kind
theorem Rep.at_(r:cZ!){l:Nat} (h:G! s l xs)(ha:G! Y l a)(k:IsL H a):∃vs,cq! bQ!/\hu!:=by
 obtain⟨b,e1,c⟩:=qv! l xs h;rw[ha]at e1;cases e1;rcases c with c | c;·exact c
 ·exact b5! (k.notC (c.imp (λ⟨k,e,_⟩=>dv! k) λh=>nl! (λ⟨o,k,_,e,_⟩=>cy! k e) (λh=>nl! (λ⟨k,n,e,_⟩=>aN! k n e) (λ⟨o,k,_,e,_⟩=>cy! k e))))
theorem vN.refl(r:cZ!):vN mg H Y H Y s:=⟨r,_dl _,λ_ _ h _ _=>h,λa h1 h2=>cN! h1 h2,λa ha=>(r.mt a ha).imp (λh=>aw! h h) λh=>⟨h,h,λ_ _ q=>q⟩,λ_ h=>h,λ_ h=>z! h⟩
theorem vN.trans(a:vN mg H Y H1 Y1 s1)(b:vN mg H1 Y1 H2 Y2 s2):vN mg H Y H2 Y2 s2:=by
 refine⟨b.rep,a.pre.trans b.pre,λc o h n g=>?_,λc h1 h2=>?_,λc hc=>?_,λc h=>a.dom c (b.dom c h),λc h=>(b.ow c h).elim (a.ow c) λz=>T! (a.dom c z)⟩
 ·refine b.keep c o (a.keep c o h n g) (λz=>?_) λz=>?_;·rw[a.new c z n]at h;cases h
  ·rcases a.ow c z with z | z;·exact g z
   ·rw[z]at h;cases h
 ·by_cases h3:c∈Y1;·exact a.new c h3 h2
  ·exact a.dom c (b.new c h1 h3)
 ·have k8 := a.pre.subset hc;rcases a.mt c hc with⟨k1,k2⟩ | ⟨k1,k2,k3⟩
  ·rcases b.mt c k8 with⟨_,q⟩ | ⟨q,_,_⟩;·exact z! ⟨k1,q⟩
   ·exact b5! (k2.notC q)
  ·rcases b.mt c k8 with⟨q,_⟩ | ⟨_,q,q3⟩;·exact b5! (q.notC k2)
   ·exact T! ⟨k1,q,λo u z=>q3 o u (k3 o u z)⟩
theorem vN.stay(stp:vN mg H Y H' Y' s') (h:cY! o)(hn:∀vs,o≠bQ!)(fj:∀ah,o≠le!:=by intro vs z;cases z)(ik:∀ah,a1! ah->o≠g2!:=by intro ah g z;cases z<;>exact g rfl):H' b=b! o:=by
 by_cases hb:b∈Y
 ·rcases stp.mt b hb with⟨⟨vs,e⟩,_⟩ | ⟨⟨vs,e⟩ | ⟨p,vs,e⟩ | ⟨vs,g,e⟩ | ⟨p,vs,e⟩,_,q⟩
  ·rw[h]at e;exact cN! (_J e) (hn vs)
  ·rw[h]at e;exact cN! (_J e) (fj vs)
  ·rw[h]at e;cases e;exact q _ _ h
  ·rw[h]at e;exact cN! (_J e) (ik vs g)
  ·rw[h]at e;cases e;exact q _ _ h
 ·exact stp.keep b o h hb λ_=>hn
mutual
theorem Den.mono(stp:vN mg H Y H' Y' s'):∀{d:D}{v:V},fN!->rh! H' Y' d v
 | .non,_,h=>h | .bl _,_,h=>h | .int _,_,h=>h | .str _,_,h=>h | .tup ds,v,h=>by
  change ∃_,_;obtain⟨a,vs,e,h1,h2⟩:=h;exact⟨a,vs,e,stp.stay h1 (by intro vs z;cases z),yp.mono stp h2⟩ | .lst ds,v,h=>by
  change ∃_,_;obtain⟨a,o,vs,e,h1,h2⟩:=h;exact⟨a,o,vs,e,stp.stay h1 (by intro vs z;cases z),yp.mono stp h2⟩ | .dct,v,h=>by
  change ∃_,_;obtain⟨a,e,h1⟩:=h;exact⟨a,e,stp.stay h1 (by intro vs z;cases z)⟩ | .loc l,v,h=>by
  change ∃_,_;obtain⟨a,e,h1,k⟩:=h;obtain⟨t,ht⟩:=stp.pre;refine⟨a,e,?_,?_⟩
  ·rw[<- ht,_F (cV! h1)];exact h1
  ·rcases stp.mt a (_x h1) with⟨_,q⟩ | ⟨q,_,_⟩;·exact q
   ·exact b5! (k.notC q) | .dlo l,v,h=>by
  change ∃_,_;obtain⟨a,e,h1,k⟩:=h;obtain⟨t,ht⟩:=stp.pre;refine⟨a,e,?_,?_⟩
  ·rw[<- ht,_F (cV! h1)];exact h1
  ·rcases stp.mt a (_x h1) with⟨q,_⟩ | ⟨_,q,_⟩;·exact b5! (q.notC k)
   ·exact q | .fn _,_,h=>h | .exc x,v,h=>by
  change ∃_,_;obtain⟨a,C,e,h1,h2⟩:=h;exact⟨a,C,e,h1,stp.stay h2 (by intro vs z;cases z)⟩ | .scr ds,v,h=>by
  change ∃_,_;obtain⟨a,vs,e,h1,h2⟩:=h;exact⟨a,vs,e,h1.imp (λ⟨o,h1⟩=>⟨o,stp.stay h1 (by intro vs z;cases z)⟩) id,yp.mono stp h2⟩
theorem yp.mono(stp:vN mg H Y H' Y' s'):r2! i7! (gw! H' Y' ds vs)
 | [],_,h=>h | d::ds,vs,h=>by
  change ∃_,_;obtain⟨v,r,e,h1,h2⟩:=h;exact⟨v,r,e,Den.mono stp h1,yp.mono stp h2⟩
end
theorem yp.length:r2! i7! (dG!=qw!)
 | [],_,h=>by rw[h];rfl | d::ds,vs,h=>by
  obtain⟨v,r,rfl,_,h2⟩:=h;simp[yp.length h2]
theorem yp.get:∀{ds:List D}{vs:List V}{i:Nat}{d:D},i7!->am! ds d->∃v,am! vs v/\fN!
 | [],_,_,_,_,e=>by cases e | d::ds,vs,0,d',h,e=>by
  obtain⟨v,r,rfl,h1,_⟩:=h;simp at e;subst e;exact⟨v,by rfl,h1⟩ | d::ds,vs,i+1,d',h,e=>by
  obtain⟨v,r,rfl,_,h2⟩:=h;obtain⟨u,h3,h4⟩:=yp.get h2 (by exact e);exact⟨u,by exact h3,h4⟩
theorem yp.append:∀{ds es:List D}{vs us:List V},i7!->gw! H Y es us->gw! H Y (ds++es) (vs++us)
 | [],_,_,_,h,h'=>by subst h;exact h' | d::ds,_,_,_,h,h'=>by
  obtain⟨v,r,rfl,h1,h2⟩:=h;exact gW! v _ h1 (yp.append h2 h')
theorem yp.nil:gw! H Y [] []:=by rfl
theorem yp.cons{d:D} {ds:D!} {v:V} {vs:aM!} (h:fN!) (h':i7!):gw! H Y (d::ds) (v::vs):=gW! v vs h h'
theorem yp.one(h:fN!):gw! H Y [d] [v]:=eI! h cB!
theorem yp.take:∀{ds:List D}{vs:List V}(n:Nat),i7!->gw! H Y (ds.take n) (vs.take n)
 | ds,vs,0,h=>by rfl | [],vs,n+1,h=>by subst h;rfl | d::ds,vs,n+1,h=>by
  obtain⟨v,r,rfl,h1,h2⟩:=h;exact eI! h1 (yp.take n h2)
theorem yp.drop:∀{ds:List D}{vs:List V}(n:Nat),i7!->gw! H Y (ds.drop n) (vs.drop n)
 | ds,vs,0,h=>by exact h | [],vs,n+1,h=>by subst h;rfl | d::ds,vs,n+1,h=>by
  obtain⟨v,r,rfl,h1,h2⟩:=h;exact yp.drop n h2
theorem yp.set:∀{ds:List D}{vs:List V}{d:D}{v:V}(n:Nat),i7!->fN!->gw! H Y (ds.set n d) (vs.set n v)
 | [],vs,_,_,n,h,_=>by subst h;rfl | d::ds,vs,_,_,0,h,h'=>by
  obtain⟨v,r,rfl,h1,h2⟩:=h;exact pk! h' h2 | d::ds,vs,_,_,n+1,h,h'=>by
  obtain⟨v,r,rfl,h1,h2⟩:=h;exact pk! h1 (yp.set n h2 h')
mutual
theorem Den.flatten(k:bD! (cY! o->(∀vs,o≠bQ!)->(∀ah,o≠le!)->(∀ah,a1! ah->o≠g2!)->H' b=b! o)):∀{d:D}{v:V},mQ!->fN!->rh! H' Y' d v
 | .non,_,_,h=>h | .bl _,_,_,h=>h | .int _,_,_,h=>h | .str _,_,_,h=>h | .tup ds,v,f,h=>by
  change ∃_,_;obtain⟨a,vs,e,h1,h2⟩:=h;exact⟨a,vs,e,k a _ h1 (by intro vs z;cases z) (by intro vs z;cases z) (by intro vs g z;cases z<;>exact g rfl),yp.flatten k f h2⟩ | .lst ds,v,f,h=>by
  change ∃_,_;obtain⟨a,o,vs,e,h1,h2⟩:=h;exact⟨a,o,vs,e,k a _ h1 (by intro vs z;cases z) (by intro vs z;cases z) (by intro vs g z;cases z<;>exact g rfl),yp.flatten k f h2⟩ | .dct,v,_,h=>by
  change ∃_,_;obtain⟨a,e,h1⟩:=h;exact⟨a,e,k a _ h1 (by intro vs z;cases z) (by intro vs z;cases z) (by intro vs g z;cases z<;>exact g rfl)⟩ | .loc l,v,f,h=>nomatch (f:t!=d!) | .dlo l,v,f,h=>nomatch (f:t!=d!) | .fn _,_,_,h=>h | .exc x,v,_,h=>by
  change ∃_,_;obtain⟨a,C,e,h1,h2⟩:=h;exact⟨a,C,e,h1,k a _ h2 (by intro vs z;cases z) (by intro vs z;cases z) (by intro vs g z;cases z<;>exact g rfl)⟩ | .scr ds,v,f,h=>by
  change ∃_,_;obtain⟨a,vs,e,h1,h2⟩:=h;exact⟨a,vs,e,h1.imp (λ⟨o,h1⟩=>⟨o,k a _ h1 (by intro vs z;cases z) (by intro vs z;cases z) (by intro vs g z;cases z<;>exact g rfl)⟩) id,yp.flatten k f h2⟩
theorem yp.flatten(k:bD! (cY! o->(∀vs,o≠bQ!)->(∀ah,o≠le!)->(∀ah,a1! ah->o≠g2!)->H' b=b! o)):r2! (dc! ds) (i7!->gw! H' Y' ds vs)
 | [],_,_,h=>h | d::ds,vs,f,h=>by
  change ∃_,_;simp only[flC,flN,_R]at f;obtain⟨v,r,e,h1,h2⟩:=h;exact⟨v,r,e,Den.flatten k f.1 h1,yp.flatten k f.2 h2⟩
end
end
def okR{α β:b4!}(mg:Gm)(E:XK)(H:Hp)(Y:bi!)(Dn:Hp->bi!->α->β->k!)(r:R α)(Q:β->cz!):k!:=match r with
 | .ok a s'=>∀b H' Y',vN mg H Y H' Y' s'->Dn H' Y' a b->Q b H' | .ex c s'=>∀H' Y' C,vN mg H Y H' Y' s'->mg.m c=a0! C->E aR! a! H' | .no=>False
section
variable {α β α2 β2:b4!}{mg:Gm}{E:XK}{H H' H1 H2:Hp}{Y Y' Y1 Y2:bi!}{s s' s1 s2:Sto}{Dn:Hp->bi!->α->β->k!}{k9:Hp->bi!->α2->β2->k!}
theorem okR.rebase(h:dS! H Y Dn r Q)(stp:vN mg H Y H1 Y1 s1):dS! H1 Y1 Dn r Q:=by cases r with
 | ok a s'=>exact λb H' Y' cj=>h b H' Y' (stp.trans cj) | ex c s'=>exact λH' Y' C cj=>h H' Y' C (stp.trans cj) | no=>exact h
theorem okR.bind(h:dS! H Y k9 (r.bind k) Q): dS! H Y Dn r (λb H1=>∃Y1 s1 a,vN mg H Y H1 Y1 s1/\Dn H1 Y1 a b/\dS! H1 Y1 k9 (k a s1) Q):=by cases r with
 | ok a s'=>exact λb H' Y' stp dn=>⟨Y',s',a,stp,dn,okR.rebase h stp⟩ | ex c s'=>exact h | no=>exact h
theorem okR.imp(h:dS! H Y Dn r Q)(i:∀b H',Q b H'->Q' b H'):dS! H Y Dn r Q':=by cases r with
 | ok a s'=>exact λb H' Y' stp dn=>i b H' (h b H' Y' stp dn) | ex c s'=>exact h | no=>exact h
theorem okR.here(h:dS! H Y Dn (i! a) Q)(r:cZ!)(d:Dn H Y a b):Q b H:=h b H Y (.refl r) d
end
structure z0u(mg:Gm)(H:Hp)(Y:bi!)(ρ:Ev)(O:L2.St):k! where
 len:od!=O.length
 at_:∀(i:Nat)(d:D),am! ρ g!->∃v,am! O bB!/\fN!
theorem z0u.mono(e:fL! H Y O)(stp:vN mg H Y H' Y' s'):fL! H' Y' O:= ⟨e.len,λi d h=>let ⟨v,h1,h2⟩:=e.at_ i d h;⟨v,h1,h2.mono stp⟩⟩
theorem z0u.set(e:fL! H Y O)(h:fN!)(i:Nat):z0u mg H Y (ij! g!) (lY! i):=by
 refine⟨by simp[e.len],λj d' hj=>?_⟩;by_cases aJ:i=j
 ·subst aJ;have hi:i<od!:=by simpa using (cV! hj)
  rw[_ai hi]at hj;cases hj;exact⟨v,by rw[_ai (by rw[<- e.len];exact hi)],h⟩
 ·rw[_ac aJ]at hj ⊢;exact e.at_ j d' hj
abbrev FE:=Ev->bm!
abbrev FT:=Ev->f4! cc!
abbrev FA:=Ev->f4! D!
inductive Fl where | nx (ρ:Ev) | rt (d:D) | bk (ρ:Ev) | ct (ρ:Ev)
inductive FlV where | nx (O:L2.St) | rt (v:V) | bk (O:L2.St) | ct (O:L2.St)
abbrev FS:=Ev->f4! Fl
def FlD(mg:Gm)(H:Hp)(Y:bi!):Fl->FlV->k!
 | .nx ρ,.nx O=>fL! H Y O | .rt d,.rt v=>fN! | .bk ρ,.bk O=>fL! H Y O | .ct ρ,.ct O=>fL! H Y O | _,_=>False
def zhZ(D:znW):FlV->cz!
 | .nx O,H=>D.nx O H | .rt v,H=>D.rt v H | .bk O,H=>D.bk O H | .ct O,H=>D.ct O H
def bD(_:Hp)(_:bi!)(a b:Bool):k!:=a=b
def tE(mg:Gm)(E:XK)(f:FE):TE:=gL! (∃Y ρ s,cZ!/\fL! H Y O/\dS! H Y (Den mg) ay! Q)
def tT(mg:Gm)(E:XK)(f:FT):TT:=gL! (∃Y ρ s,cZ!/\fL! H Y O/\dS! H Y bD ay! Q)
def tA(mg:Gm)(E:XK)(f:FA):TA:=gL! (∃Y ρ s,cZ!/\fL! H Y O/\dS! H Y (yp mg) ay! Q)
def tS(mg:Gm)(E:XK)(f:FS):TS:=lp! (∃Y ρ s,cZ!/\fL! H Y O/\dS! H Y (FlD mg) ay! (zhZ D))
def RE(X:Cx)(E:XK)(e:Expr)(f:FE):k!:=V! e (tE C! E f)
def RT(X:Cx)(E:XK)(e:Expr)(f:FT):k!:=PT X e (tT C! E f)
def RA(X:Cx)(E:XK)(es:aD!)(f:FA):k!:=PA X es (tA C! E f)
def RS(X:Cx)(E:XK)(st:Stmt)(f:FS):k!:=PS X st (tS C! E f)
def RSs(X:Cx)(E:XK)(st:ny!)(f:FS):k!:=PSs X st (tS C! E f)
section
variable {X:Cx}{E:XK}{e a b c:Expr}{es:aD!}{pos:Pos}
theorem yq(h:V! e t)(i:∀O H Q,t' O H Q->t O H Q):V! e t':=λae s O H Q I q=>h ae s O H Q I (i O H Q q)
theorem ziJ(h:PT X e t)(i:∀O H Q,t' O H Q->t O H Q):PT X e t':=λae s O H Q I q=>h ae s O H Q I (i O H Q q)
theorem zlL(h:PA X es t)(i:∀O H Q,t' O H Q->t O H Q):PA X es t':=λpos ae s O H Q I q=>h pos ae s O H Q I (i O H Q q)
theorem z0z{st:Stmt} (h:PS X st t)(i:∀D O H,t' D O H->t D O H):PS X st t':=λae s O H D I q=>h ae s O H D I (i D O H q)
theorem zi7{st:ny!} (h:PSs X st t)(i:∀D O H,t' D O H->t D O H):PSs X st t':=λae s O H D I q=>h ae s O H D I (i D O H q)
theorem yS{k:Ev->D->f4! α} {Q:β->cz!} (r:cZ!)(en:fL! H Y O) (h:dS! H Y Dn (j8! (k ρ)) Q)(K:V->cz!) (hK:∀v H1 Y1 s1 d,Rep mg H1 Y1 s1->fL! H1 Y1 O->rh! H1 Y1 d v->vN mg H Y H1 Y1 s1->dS! H1 Y1 Dn (k ρ d s1) Q->K v H1):tE mg E f O H K:= ⟨Y,ρ,s,r,en,de! h (λv H1 ⟨Y1,s1,d,stp,dn,q⟩=>hK v H1 Y1 s1 d dH! if! dn stp q)⟩
theorem z72{k:Ev->cc!->f4! α} {Q:β->cz!} (r:cZ!)(en:fL! H Y O) (h:dS! H Y Dn (j8! (k ρ)) Q)(K:cc!->cz!) (hK:∀v H1 Y1 s1,Rep mg H1 Y1 s1->fL! H1 Y1 O->vN mg H Y H1 Y1 s1->dS! H1 Y1 Dn (k ρ v s1) Q->K v H1):tT mg E f O H K:= ⟨Y,ρ,s,r,en,de! h (λv H1 ⟨Y1,s1,d,stp,dn,q⟩=>hK v H1 Y1 s1 dH! if! stp (by cases (dn);exact q))⟩
theorem je{k:Ev->D!->f4! α} {Q:β->cz!} (r:cZ!)(en:fL! H Y O) (h:dS! H Y Dn (j8! (k ρ)) Q)(K:aM!->cz!) (hK:∀v H1 Y1 s1 d,Rep mg H1 Y1 s1->fL! H1 Y1 O->gw! H1 Y1 d v->vN mg H Y H1 Y1 s1->dS! H1 Y1 Dn (k ρ d s1) Q->K v H1):tA mg E f O H K:= ⟨Y,ρ,s,r,en,de! h (λv H1 ⟨Y1,s1,d,stp,dn,q⟩=>hK v H1 Y1 s1 d dH! if! dn stp q)⟩
noncomputable def zd(i:Nat):FE:=eO! (match ρ[i]? with | some (some d)=>i! d | _=>.no)
theorem zc(i:Nat) (hN:y! (f5! x))(hv:sA! x:=by first | exact a6! | exact Or.inr a6! | exact Or.inr bh!)(hd:cm! (x==cP!)) (bz:cm! (x==o! "__classdict__")):X! mW! (zd i):= yq (zlX hN hv hd bz) λO H Q ⟨Y,ρ,s,r,en,h⟩=>by
  unfold zd at h;split at h
  ·rename_i d hd;obtain⟨v,h1,h2⟩:=en.at_ i d hd;exact⟨v,h1,eW! h2⟩
  ·exact h.elim
noncomputable def eC(d:D):FE:=λ_ s=>i! d
theorem zq: X! (jE! Y! pos) (E! i):=yq zmB λO H Q ⟨Y,ρ,s,r,en,h⟩=>gV! h (by rfl)
theorem z64: X! (jE! (.bool i) pos) (eC (.bl i)):=yq ztM λO H Q ⟨Y,ρ,s,r,en,h⟩=>gV! h (by rfl)
theorem ziE: X! (jE! aa! pos) (eC an!):=yq zqF λO H Q ⟨Y,ρ,s,r,en,h⟩=>gV! h (by rfl)
theorem xY: X! (jE! (aq! i) pos) (bG! i):=yq zm3 λO H Q ⟨Y,ρ,s,r,en,h⟩=>gV! h (by rfl)
theorem zqH(hg:e6!)(hm:X.mg x=b! (bS! i))(hd:cm! (x==cP!)):X! mW! (E! i):= yq (z7n hg hm (show wV Y! (bS! i) from cf! t) hd) λO H Q ⟨Y,ρ,s,r,en,h⟩=>gV! h (by rfl)
def OpF(X:Cx)(E:XK)(r:R2)(op:D->D->bm!):k!:= ∀H Y s d1 d2 v1 v2 (Q:VK),Rep C! H Y s->Den C! H Y d1 v1->Den C! H Y d2 v2->i2! C! H Y ki! (op d1 d2 s) Q->r v1 v2 H Q
noncomputable def eOp(op:D->D->bm!)(fa fb:FE):FE:=b7! (gF! s) (λx s1=>A! gb! (λy s2=>op x y s2))
theorem zfe(ho:c0! op) (h:tE C! E (eOp op fa fb) O H Q):tOp r (tE C! E fa) (tE C! E fb) O H Q:=by
 obtain⟨Y,ρ,s,r',en,h⟩:=h;exact yS (k:=lw! (A! gb! (λy s2=>op x y s2))) r' en h _ λv H1 Y1 s1 d r1 av dn stp h1=>(yS (k:=fun ρ y s2=>op d y s2) r1 av h1 _ λv2 H2 Y2 s2 d2 r2 aZ ax ni h2=>(ho H2 Y2 s2 d d2 v v2 Q r2 (rH! ni) ax h2))
theorem zvK(ho:gB! op r/\c0! fo)(ha:f6! a)(hb:X! b fb):X! (.BinOp a op b pos) (eOp fo fa fb):= yq (zrZ ho.1 ha hb) λO H Q h=>zfe ho.2 h
theorem zs3(ho:dV! op r/\c0! fo)(ha:f6! a)(hb:X! b fb)(hm:pS! b=t!):X! (.Compare a [op] [b] pos) (eOp fo fa fb):= yq (ziy ho.1 ha hb hm) λO H Q h=>zfe ho.2 h
end
end Dd
namespace L2
theorem Inv.freeze{O:L2.St} (I:L!)(h:cq! u)(e:dp! a)(hu:∀xs,u≠ap!)(hf:∀o v,u≠d7! v)(ht:∀ps,u≠.tbl ps)(ho:∀y,u≠.own y): cQ! (hb! (d7! u)) s:=by
 have ne:∀{b:Addr}{v:HO},cY! v->v≠u->b≠a:=λ{b v} hb hv z=>by subst z;rw[h]at hb;exact hv (_J hb).symm
 have stay:∀b v,kF aO! X.w H I! b v->kF aO! X.w (hb! (d7! u)) I! b v:=λb v q=> q.stay (λ_ _ _ q=>q) (λc q=>by rw[zM (ne q (λz=>ho b jn!))];exact q) λc xs q=>by rw[zM (ne q (λz=>hu xs jn!))];exact q
 exact I.step (ch:=[]) (cr! (cN! hb (by simp))) (λb o _ _ _ e _=>e) (λb o _ _ _ e _=>dv! o.slots) (λb v _ _ n=>by rw[zM (λz=>by subst z;rw[h]at n;cases n)];exact n) (λb o _ e=>dv! o) (λb xs q=>by rw[zM (ne q (λz=>hu xs jn!))];exact q) (λb o' v q=>by rw[zM (ne q (λz=>hf o' v jn!))];exact q) (λb ps q=>⟨#[],by rw[zM (ne q (λz=>ht ps jn!)),q];rfl⟩) (λ_ q=>q) (λb v q=>by
  by_cases hb:b=a
  ·subst hb;rw[yB]at q;cases q;exact⟨e,stay b u (nZ! b u h)⟩
  ·rw[zM hb]at q;exact stay b v (nZ! b v q)) I.bare
def zki(Q:VK):VK:=λv H=>∃a xs,v=ag!/\cq! bH!/\∀o,Q v (hb! (d7! bH!))
theorem EP.freeze(h:EP X ae O (zki Q) u s):EP X ae O Q u s:=by
 obtain⟨v,H',I,r,a,xs,rfl,ha,q⟩:=h;obtain⟨af,n,rv,e,_⟩:=I.lst ha;exact⟨_,_,I.freeze ha e (by intro _ z;cases z) (by intro _ _ z;cases z) (by intro _ z;cases z) (by intro _ z;cases z),r,q _⟩
theorem OpR.freeze(h:OpR X f r):OpR X f (hG! (r x y H (zki Q))):=λae s O H x y v u Q I rx ry q=>thn (h ae s O H x y v u _ I rx ry q) sF!
theorem wx.freeze(h:wx X f r):wx X f (λxs H Q=>r xs H (zki Q)):=λae s O H xs us Q I rs q=>thn (h ae s O H xs us _ I rs q) sF!
theorem PE.freeze(h:V! e t):V! e (k1! O H (zki Q)):=λae s O H Q I q=>thn (h ae s O H _ I q) sF!
theorem SlR.freeze(h:SlR X r):SlR X (qq! (r x lo hi H (zki Q))):=λae s O H x v vl vu lo hi sl Q I rx hs pl pu q=>by
 obtain⟨T,id,h1,h2,h3⟩:=h ae s O H x v vl vu lo hi sl _ I rx hs pl pu q;exact⟨T,id,h1,h2,thn h3 sF!⟩
section
variable {X:Cx}
theorem zmG:gB! .Add (hG! (∃l b xs zs,x=eD!/\y=u! b/\Rd H l bH!/\Rd H b (W! zs)/\w!+zs.length<=aS!/\∀p,gG!->Q cn! (fP! (W! (xs++zs))))):=by
 intro ae s O H x y v u Q I rx ry h;obtain⟨l,b,xs,zs,rfl,rfl,hH,hB,hz,q⟩:=h;cases rx;cases ry;obtain⟨z,af,n,r,e⟩:=hH.ok eK!;obtain⟨z2,cU,n2,r2,e2⟩:=hB.ok eK!;have hl:=r.length;have gu:=r2.length;refine PySem.P.add_list e e2 ?_ (by rw[_u,_u];lia);rw[(show fu!++cU.toArray=nf! (af++cU) from by simp)];exact⟨u! _,_,I.lnew (r.append r2) (by rw[_a2];lia),rfl,q _ I.fresh⟩
end
section
variable {X:Cx}
theorem zkL:gB! .Add (hG! (∃a b ys,x=ag!/\y=u! b/\eH! X.K a []/\eH! X.K b ys/\Q (u! b) H)):=by
 intro ae s O H x y v u Q I rx ry h;obtain⟨a,b,ys,rfl,rfl,ha,hb,q⟩:=h;cases rx;cases ry;obtain⟨af,r1,p1,_⟩:=lo! ha;obtain⟨cU,r2,p2,_⟩:=lo! hb;cases r1;obtain⟨⟨cls,dd,data,sl⟩,ho,hc,n,hd⟩:=id p1;obtain⟨⟨gQ,ge,data2,cF⟩,dG,gR,n2,eS⟩:=id p2;subst hc hd gR eS;exact concat_meets (ca! ho) (ca! dG) _dh seq_tuple_add _bX _bS (_bJ _ _) (tuple_addW0 a b _ _ n n2 dd ge sl cF (by rfl)) ⟨ho,dG,bo! (u! b) H I q⟩
theorem zoF:SlR X (qq! (∃a xs,x=ag!/\eH! X.K a xs/\(ic! 0 lo=0/\ic! w! hi=w!)/\Q ag! H)):=by
 intro ae s O H x v vl vu lo hi sl Q I rx hs pl pu h;obtain⟨a,xs,rfl,hx,hw,q⟩:=h;cases rx;obtain⟨af,r,ht,hz⟩:=lo! hx;refine⟨dr!,_,_Q.lookup,lu!,?_⟩;obtain⟨os,bZ,cT,cP⟩:=id hs;unfold getItem;try with_reducible refine _aS ?_
 refine _a (_cX lu! (by decide) (_a (_ag lu! _Q (_av _Q lu! _cr ?_ (_cG _ _)))));show fJ! _ _ (Builtin.Tuple.tupleItemsOf ag! >>= _) _ _;refine _a (tupleItemsOf_ ht (_a (_dA ⟨os,bZ,cT⟩ ?_)));refine _a (HT.z0F hs pl pu ?_);rw[(show iI!=w! from by exact r.length.symm),hw.1,hw.2];show fJ! _ _ (aF! (0==0&&1==1&&(w!-0)==w!) _ _) _ _;rw[_h (by simp)];exact _a (_a (_dA lu! (_m (_a (_cB (_m (aB! _ (_m (bo! ag! H I q)))))))))
end
end L2
namespace Dd
open L2
section
variable {mg:Gm}{H H' H1 H2:Hp}{Y Y' Y1 Y2:bi!}{s s' s1 s2:Sto}
structure Kp(H H':Hp):k! where
 k:bD! (cY! o->(∀vs,o≠bQ!)->(∀ah,o≠le!)->(∀ah,a1! ah->o≠g2!)->H' b=b! o)
 l:∀a,IsL H a->IsL H' a
 c:∀a,IsC H a->IsC H' a
mutual
theorem Den.gen(k:Kp H H')(hi:∀(l:Nat) a,G! Y l a->G! Y' l a):∀{d:D}{v:V},fN!->rh! H' Y' d v
 | .non,_,h=>h | .bl _,_,h=>h | .int _,_,h=>h | .str _,_,h=>h | .tup ds,v,h=>by
  change ∃_,_;obtain⟨a,vs,e,h1,h2⟩:=h;exact⟨a,vs,e,k.k a _ h1 (by intro vs z;cases z) (by intro vs z;cases z) (by intro vs g z;cases z<;>exact g rfl),yp.gen k hi h2⟩ | .lst ds,v,h=>by
  change ∃_,_;obtain⟨a,o,vs,e,h1,h2⟩:=h;exact⟨a,o,vs,e,k.k a _ h1 (by intro vs z;cases z) (by intro vs z;cases z) (by intro vs g z;cases z<;>exact g rfl),yp.gen k hi h2⟩ | .dct,v,h=>by
  change ∃_,_;obtain⟨a,e,h1⟩:=h;exact⟨a,e,k.k a _ h1 (by intro vs z;cases z) (by intro vs z;cases z) (by intro vs g z;cases z<;>exact g rfl)⟩ | .loc l,v,h=>by
  change ∃_,_;obtain⟨a,e,h1,q⟩:=h;exact⟨a,e,hi l a h1,k.l a q⟩ | .dlo l,v,h=>by
  change ∃_,_;obtain⟨a,e,h1,q⟩:=h;exact⟨a,e,hi l a h1,k.c a q⟩ | .fn _,_,h=>h | .exc x,v,h=>by
  change ∃_,_;obtain⟨a,C,e,h1,h2⟩:=h;exact⟨a,C,e,h1,k.k a _ h2 (by intro vs z;cases z) (by intro vs z;cases z) (by intro vs g z;cases z<;>exact g rfl)⟩ | .scr ds,v,h=>by
  change ∃_,_;obtain⟨a,vs,e,h1,h2⟩:=h;exact⟨a,vs,e,h1.imp (λ⟨o,h1⟩=>⟨o,k.k a _ h1 (by intro vs z;cases z) (by intro vs z;cases z) (by intro vs g z;cases z<;>exact g rfl)⟩) id,yp.gen k hi h2⟩
theorem yp.gen(k:Kp H H')(hi:∀(l:Nat) a,G! Y l a->G! Y' l a):r2! i7! (gw! H' Y' ds vs)
 | [],_,h=>h | d::ds,vs,h=>by
  change ∃_,_;obtain⟨v,r,e,h1,h2⟩:=h;exact⟨v,r,e,Den.gen k hi h1,yp.gen k hi h2⟩
end
theorem qB(hp:gG!):∀b u,cY! u->upd H p o b=b! u:=λb u h=>by rw[zM (xz h hp)];exact h
theorem Kp.new(hp:gG!):Kp H (fP! o):=⟨λb u h _ _ _=>qB hp b u h,λa ⟨vs,e⟩=>⟨vs,qB hp a _ e⟩,λa h=>nl! (λ⟨vs,e⟩=>⟨vs,qB hp a _ e⟩) (λh=>nl! (λ⟨o,vs,e⟩=>cy! vs (qB hp a _ e)) (λh=>nl! (λ⟨vs,g,e⟩=>⟨vs,g,qB hp a _ e⟩) (λ⟨o,vs,e⟩=>cy! vs (qB hp a _ e))))⟩
theorem Kp.putL(h:IsL H a):Kp H (hb! bQ!):=by
 obtain⟨ws,e⟩:=h;have ne:∀{b u},cY! u->(∀vs,u≠bQ!)->b≠a:=λ{b u} q n z=>by subst z;rw[e]at q;exact n ws (_J q).symm
 refine⟨λb o q n1 n2 _=>by rw[zM (ne q n1)];exact q,λb ⟨us,q⟩=>?_,λb h=>?_⟩
 ·by_cases z:b=a;·subst z;exact aw! vs yB
  ·exact⟨us,by rw[zM z];exact q⟩
 ·rcases h with⟨us,q⟩ | ⟨o,us,q⟩ | ⟨us,g,q⟩ | ⟨o,us,q⟩;·exact z! ⟨us,by rw[zM (ne q (by intro _ z;cases z))];exact q⟩
  ·exact T! (z! ⟨o,us,by rw[zM (ne q (by intro _ z;cases z))];exact q⟩)
  ·exact ig! (z! ⟨us,g,by rw[zM (ne q (by intro _ z;cases z))];exact q⟩)
  ·exact T! (ig! ⟨o,us,by rw[zM (ne q (by intro _ z;cases z))];exact q⟩)
theorem zgd.imp: ∀{xs:List D}{ah:List (Key×V)},(∀ys vs k,(gN! [c! k,hW!]∈xs\/gN! [c! k,hW!,an!]∈xs)->oM! ys->gw! H' Y' ys vs)->(∀k b vs,(k,mT!)∈ah->cY! bQ!->H' b=b! bQ!)->(∀b o vs,cY! (d7! bQ!)->H' b=b! (d7! bQ!))->zgd mg H Y xs ah->zgd mg H' Y' xs ah
 | [],_,_,_,_,h=>h | d::ds,ah,g,w,z,h=>by
  obtain⟨k,ys,b,vs,r,rfl,h1,h2,h3⟩:=h;refine⟨k,ys,b,vs,r,rfl,g ys vs k (h2.imp (λq=>by rw[q.1];simp) λq=>by rw[q.1];simp) h1,h2.imp (λq=>⟨q.1,w (pc! k) b vs (by simp) q.2⟩) (λq=>⟨q.1,q.2.imp λo e=>z b o vs e⟩),zgd.imp (λys vs k hm=>g ys vs k (hm.imp (λq=>by simp[q]) λq=>by simp[q])) (λk b vs hm=>w k b vs (by simp[hm])) z h3⟩
theorem zgd.fz: ∀{xs:List D}{ah:List (Key×V)}{k:Key}{b:Addr}{us:List V},zgd mg H Y xs ah->zqf xs->(k,mT!)∈ah->H b=bg! us->nd!
 | [],_,k,b,us,h,f,hm,z=>by subst h;simp at hm | d::ds,ah,k,b,us,h,f,hm,z=>by
  obtain⟨k',ys,b',vs,r,rfl,h1,h2,h3⟩:=h;rcases dE! hm with e | hm
  ·cases e;rcases h2 with⟨q,_⟩ | ⟨_,o,q⟩
   ·obtain⟨k2,zs,e2⟩:=f d in!;rw[e2]at q;simp at q
   ·rw[q]at z;cases z
  ·exact zgd.fz h3 (hI! (f d (.tail _ hd))) hm z
theorem zgd.at_: ∀{xs:List D}{ah:List (Key×V)}{k:Key}{b:Addr},zgd mg H Y xs ah->(k,mT!)∈ah->∃u,cY! u
 | [],_,k,b,h,hm=>by subst h;simp at hm | d::ds,ah,k,b,h,hm=>by
  obtain⟨k',ys,b',vs,r,rfl,h1,h2,h3⟩:=h;rcases dE! hm with e | hm
  ·cases e;rcases h2 with⟨_,q⟩ | ⟨_,o,q⟩<;>exact gy! q
  ·exact zgd.at_ h3 hm
theorem Rep.ownAt(r:cZ!) (h:Own H Y b):∃u,cY! u:=by
 obtain⟨a,ha,ah,k,e,hm⟩:=h;obtain⟨l,hl,el⟩:=gM! ha;have eK:l<ct!:=by rw[<- r.len];exact hl
 obtain⟨b',e1,c⟩:=qv! l (s[l]) (_b eK);rw[_b hl]at e1;have := _J e1;subst this;rw[el]at c;rcases c with⟨_,z,_⟩ | ⟨_,z,_⟩ | ⟨_,_,_,z,_⟩ | ⟨br,_,z,dk⟩ | ⟨_,_,_,z,_⟩<;>rw[e]at z<;>cases z;exact dk.at_ hm
def DkS(H:Hp)(Y:bi!)(H':Hp)(Y':bi!):k!:=∀a∈Y',∀ah,H' a=b! g2!->a∈Y/\cq! g2!
theorem DkS.own(d:DkS H Y H' Y') (h:Own H' Y' b):Own H Y b:=by
 obtain⟨a,ha,ah,k,e,hm⟩:=h;obtain⟨h1,h2⟩:=d a ha ah e;exact⟨a,h1,ah,k,h2,hm⟩
theorem DkS.uq(r:cZ!)(d:DkS H Y H' Y'):∀a∈Y',∀a'∈Y',∀ah br (i j:Nat) k k' b,H' a=b! g2!->H' a'=b! (.dK br)->am! ah (k,mT!)->G! br j (k',mT!)->a=a'/\i=j:=λa ha a' gv ah br i j k k' b e e'=> r.uq a (d a ha ah e).1 a' (d a' gv br e').1 ah br i j k k' b (d a ha ah e).2 (d a' gv br e').2
theorem zas(h:upd H p o b=a!):e7!:=by
 by_cases z:b=p;·subst z;rw[yB]at h;cases h
 ·rw[zM z]at h;exact h
theorem kT.gen(k:Kp H H')(hi:∀(l:Nat) a,G! Y l a->G! Y' l a)(e:H' a=H a)(ha:a∈Y)(ro:∀b,Own H Y b->b∉Y)(w:∀b vs,b∉Y->cY! bQ!->H' b=b! bQ!)(h:kT mg H Y xs a):kT mg H' Y' xs a:=by
 rcases h with⟨vs,h1,h2⟩ | ⟨ah,h1,h2⟩ | ⟨o,ah,ys,h1,h2⟩ | ⟨ah,g,h1,h2⟩ | ⟨o,ah,ys,h1,e1,h2,f⟩;·exact z! ⟨vs,mD!,h2.gen k hi⟩
 ·exact T! (z! ⟨ah,mD!,h2⟩)
 ·exact ig! (z! ⟨o,ah,ys,mD!,h2⟩)
 ·exact T! (ig! (z! ⟨ah,g,mD!,h2.imp (λ_ _ _ _ q=>q.gen k hi) (λq b vs hm=>w b vs (ro b ⟨a,ha,ah,q,h1,hm⟩)) λb o vs q=>k.k b _ q (by intro vs z;cases z) (by intro vs z;cases z) (by intro vs g z;cases z)⟩))
 ·exact ig! (ig! ⟨o,ah,ys,mD!,e1,h2.imp (λ_ _ _ _ q=>q.gen k hi) (λq b vs hm z=>b5! (h2.fz f.1 hm z)) λb o vs q=>k.k b _ q (by intro vs z;cases z) (by intro vs z;cases z) (by intro vs g z;cases z),f⟩)
theorem kT.ne(h:kT mg H Y xs a)(hp:gG!):a≠p:=by
 rintro rfl;rcases h.kind with⟨_,e⟩ | ⟨_,e⟩ | ⟨_,_,e⟩ | ⟨_,_,e⟩ | ⟨_,_,e⟩<;>rw[hp]at e<;>cases e
theorem Rep.notin(r:cZ!)(hp:gG!):p∉Y:=λz=>by rcases r.mt p z with⟨_,e⟩ | ⟨_,e⟩ | ⟨_,_,e⟩ | ⟨_,_,e⟩ | ⟨_,_,e⟩<;>rw[hp]at e<;>cases e
theorem vN.lay(r:cZ!)(hp:gG!)(ho:∀vs,o≠bQ!):vN mg H Y (fP! o) Y s:= have d:DkS H Y (fP! o) Y:=λa ha ah e=>⟨ha,by rw[zM (show a≠p from λz=>r.notin hp (z ▸ ha))]at e;exact e⟩;⟨⟨r.len,r.nd,λl xs h=>let ⟨a,h1,h2⟩:=qv! l xs h;⟨a,h1,h2.gen (.new hp) (λ_ _ q=>q) (zM (h2.ne hp)) (_x h1) r.own (λb vs _ q=>qB hp b _ q)⟩,r.flat,λb h=>r.own b (d.own h),d.uq r⟩,_dl _,λb u h _ _=>qB hp b u h,λa h1 h2=>cN! h1 h2,λa ha=>(r.mt a ha).imp (λh=>⟨h,(Kp.new hp).l a h⟩) λh=>⟨h,(Kp.new hp).c a h,λ_ _ e=>qB hp a _ e⟩,λb h=>zas h,λb h=>z! (d.own h)⟩
theorem vN.layC(r:cZ!)(hp:gG!)(hc:kT mg (fP! o) (Y++[p]) xs p)(hf:dc! xs)(ho:∀ah,o≠g2!:=by intro _ z;cases z):vN mg H Y (fP! o) (Y++[p]) (s++[xs]):=by
 have d:DkS H Y (fP! o) (Y++[p]):=λa ha ah e=>by
  by_cases z:a=p;·subst z;rw[yB]at e;exact cN! (_J e) (ho ah)
  ·rw[zM z]at e;exact dv! (mR! ha id (λq=>cN! (by simpa using q) z))
 have hi:∀(l:Nat) a,G! Y l a->G! (Y++[p]) l a:=λl a h=>by rw[_F (cV! h)];exact h
 refine⟨⟨by simp[r.len],?_,λl ys h=>?_,λys h=>?_,λb h=>?_,d.uq r⟩,List.prefix_append _ _,λb u h _ _=>qB hp b u h,λa h1 h2=>?_,λa ha=>(r.mt a ha).imp (λh=>⟨h,(Kp.new hp).l a h⟩) λh=>⟨h,(Kp.new hp).c a h,λ_ _ e=>qB hp a _ e⟩,λb h=>zas h,λb h=>z! (d.own h)⟩
 ·rw[List.nodup_append];exact⟨r.nd,by simp,λa ha b hb=>by
   have:b=p:=by simpa using hb
   subst this;exact λz=>(r.notin hp) (z ▸ ha)⟩
 ·by_cases hl:l<ct!
  ·rw[_F hl]at h;obtain⟨a,h1,h2⟩:=qv! l ys h;exact⟨a,hi l a h1,h2.gen (.new hp) hi (zM (h2.ne hp)) (_x h1) r.own (λb vs _ q=>qB hp b _ q)⟩
  ·have h0:l=ct!:=by
    have:=cV! h;simp at this;lia
   subst h0;simp at h;subst h;exact⟨p,by rw[<- r.len];simp,hc⟩
 ·rcases l9! h with h | h;·exact r.flat ys h
  ·rw[(show ys=xs from by simpa using h)];exact hf
 ·have q:=d.own h;obtain⟨u,hu⟩:=r.ownAt q;intro z;rcases l9! z with z | z;·exact r.own b q z
  ·rw[(show b=p from by simpa using z),hp]at hu;cases hu
 ·rcases l9! h1 with h | h;·exact cN! h h2
  ·rw[(show a=p from by simpa using h)];exact hp
theorem vN.layL(r:cZ!)(hp:gG!)(hd:hu!)(hf:dc! xs):vN mg H Y (fP! bQ!) (Y++[p]) (s++[xs]):= vN.layC r hp (z! ⟨vs,yB,hd.gen (.new hp) λl a h=>by rw[_F (cV! h)];exact h⟩) hf
theorem vN.putC(r:cZ!)(ha:G! Y l a)(k:Kp H (hb! o))(hc:kT mg (hb! o) Y xs a)(hf:dc! xs)(ho:∀ah,o≠g2!:=by intro _ z;cases z):vN mg H Y (hb! o) Y (s.set l xs):=by
 have d:DkS H Y (hb! o) Y:=λb hb ah e=>by
  by_cases z:b=a;·subst z;rw[yB]at e;exact cN! (_J e) (ho ah)
  ·rw[zM z]at e;exact dv! hb
 have lg := _x ha;refine⟨⟨by simp[r.len],r.nd,λj ys h=>?_,λys h=>?_,λb h=>r.own b (d.own h),d.uq r⟩,_dl _,λb u h hn _=>?_,λa h1 h2=>cN! h1 h2,cr! ((r.mt b hb).imp (λh=>⟨h,k.l b h⟩) λh=>⟨h,k.c b h,λ_ _ e=>k.k b _ e (by intro _ z;cases z) (by intro _ z;cases z) (by intro _ _ z;cases z)⟩),λb h=>zas h,λb h=>z! (d.own h)⟩
 ·by_cases hj:l=j
  ·subst hj;rw[_ai (by rw[<- r.len];exact cV! ha)]at h;cases h;exact aN! a ha hc
  ·rw[_ac hj]at h;obtain⟨b,h1,h2⟩:=qv! j ys h;refine⟨b,h1,h2.gen k (λ_ _ q=>q) (zM ?_) (_x h1) r.own (λc vs hc q=>by rw[zM (show c≠a from λz=>hc (z ▸ lg))];exact q)⟩;rintro rfl;exact hj ((_a1 r.nd).mp (bb! (n2! ha).2 ((n2! h1).2).symm))
 ·rcases _z h with h | h;·exact r.flat ys h
  ·rw[h];exact hf
 ·rw[zM (λz=>by subst z;exact hn lg)];exact h
theorem vN.put(r:cZ!)(ha:G! Y l a)(ka:IsL H a)(hd:hu!)(hf:dc! xs):vN mg H Y (hb! bQ!) Y (s.set l xs):= vN.putC r ha (.putL ka) (z! ⟨vs,yB,hd.gen (.putL ka) λ_ _ q=>q⟩) hf
noncomputable def listOf(s:Sto):D->bn! D!
 | .lst xs=>b! xs | .loc l=>s[l]? | _=>none
noncomputable def zW(s:Sto):D->bn! D!
 | .tup xs=>b! xs | .lst xs=>b! xs | .scr xs=>b! xs | .loc l=>s[l]? | _=>none
theorem yu(r:cZ!)(h:l0! d=b! xs)(dn:fN!):∃a vs,v=ag!/\Rd H a bQ!/\hu!:=by cases d with
 | lst ys=>
  simp only[listOf,_y]at h;subst h;obtain⟨a,o,vs,e,h1,h2⟩:=dn;exact⟨a,vs,e,em! o h1,h2⟩ | loc l=>
  obtain⟨a,e,h1,k⟩:=dn;obtain⟨vs,h3,h4⟩:=r.at_ h h1 k;exact⟨a,vs,e,z! h3,h4⟩ | _=>simp[listOf]at h
theorem zm8(dn:iZ! (.scr xs) v):∃a vs,v=ag!/\SqL nk! H a vs/\hu!:=by
 obtain⟨a,vs,e,h1,h2⟩:=dn;exact⟨a,vs,e,h1.elim (λ⟨o,h⟩=>z! (em! o h)) .inr,h2⟩
theorem jK{K:W.Frag} (r:cZ!)(h:zW s d=b! xs)(dn:fN!)(hK:y! (nk!=K)):∃a vs,v=ag!/\(SqL K H a vs\/eH! K a vs)/\hu!:=by cases d with
 | tup ys=>
  simp only[zW,_y]at h;subst h;obtain⟨a,vs,e,h1,h2⟩:=dn;exact⟨a,vs,e,T! (z! (z! h1)),h2⟩ | lst ys=>
  obtain⟨a,vs,e,h1,h2⟩:=yu (d:=hW!) r h dn;exact⟨a,vs,e,z! (z! h1),h2⟩ | scr ys=>
  simp only[zW,_y]at h;subst h;subst hK;obtain⟨a,vs,e,h1,h2⟩:=zm8 dn;exact⟨a,vs,e,z! h1,h2⟩ | loc l=>
  obtain⟨a,vs,e,h1,h2⟩:=yu (d:=dP!) r h dn;exact⟨a,vs,e,z! (z! h1),h2⟩ | _=>simp[zW]at h
theorem kU{K:W.Frag} (dn:iZ! ap! v):∃a vs,v=ag!/\eH! K a vs/\hu!:=by
 obtain⟨a,vs,e,h1,h2⟩:=dn;exact⟨a,vs,e,z! (z! h1),h2⟩
end
noncomputable def cap:Nat:=100000
theorem z0A(h:n<=cap):n<=aS!:=_Z h (by decide)
theorem zrm(h:n<cap):n<aS!:=_j h (by decide)
noncomputable def BIG:Nat:=2 ^ 4096
noncomputable def zmX(x y:D)(s:Sto):R D:=match l0! x,l0! y with
 | some a,some b=>ac! (a.length+pl!<=cap) (bA! (a++b)) | _,_=>.no
def xh:D->D->bm!
 | .int i,.int j,s=>x! (i+j) | .tup a,.tup b,s=>ac! (a.length+pl!<=cap) (a7! (a++b)) | x,y,s=>zmX x y s
section
variable {X:Cx}{E:XK}
theorem yx(h:iZ! Y! v):v=Y!:=h
theorem z0B(h:iZ! (.bl i) v):v=.bl i:=h
theorem z0N(h:iZ! (aq! i) v):v=aq! i:=h
theorem yK: iZ! Y! Y!:=rfl
theorem wS: iZ! (.bl i) (.bl i):=rfl
theorem z0L{Q:VK}(r:cZ!)(h:dS! H Y (Den mg) (i! bH!) Q)(hd:hu!):∀p,gG!->zki Q cn! (fP! bQ!):=bs! (by
 refine gW! p vs yB (λo=>?_);rw[zn9];have stp:=vN.lay (o:=d7! bQ!) r hp (by intro _ z;cases z);exact h _ _ _ stp ⟨p,o,vs,rfl,yB,hd.mono stp⟩)
theorem z4L{Q:VK}(r:cZ!)(h:dS! H Y (Den mg) (i! ap!) Q)(hd:hu!):∀p,gG!->Q cn! (fP! (n! vs)):=bs! (by
 have stp:=vN.lay (o:=n! vs) r hp (by intro _ z;cases z);exact h _ _ _ stp (gW! p vs yB (hd.mono stp)))
theorem zdV{Q:VK}(r:Rep C! H Y s)(h1:Den C! H Y d1 v1)(h2:Den C! H Y d2 v2)(h:i2! C! H Y ki! (zmX d1 d2 s) Q):∃l b xs zs,v1=V.ref l/\v2=mT!/\Rd H l bH!/\Rd H b (W! zs)/\w!+zs.length<=aS!/\∀p,gG!->zki Q cn! (fP! (W! (xs++zs))):=by
 unfold zmX at h;cases ha:l0! d1 with
 | none=>rw[ha]at h;exact b5! (h:nd!) | some a=>
  rw[ha]at h;cases hb:l0! d2 with
  | none=>rw[hb]at h;exact b5! (h:nd!) | some b=>
   rw[hb]at h;obtain⟨l,vs,e,q1,q2⟩:=yu r ha h1;obtain⟨l',fk,e',gw,dZ⟩:=yu r hb h2;have h:i2! C! H Y ki! (ac! (a.length+pl!<=cap) (bA! (a++b))) Q:=h;split at h
   ·rename_i hl;exact⟨l,l',vs,fk,e,e',q1,gw,by rw[q2.length,dZ.length];exact z0A hl,z0L r h (q2.append dZ)⟩
   ·exact h.elim
theorem yG:∃r,gB! .Add r/\c0! xh:=by
 refine bM! (zqj.or ((zkL).or ((znp).or (zmG.freeze)))) ?_;intro H Y s d1 d2 v1 v2 Q r h1 h2 h;cases d1 with
 | int i=>cases d2 with
  | int j=>
   cases yx h1;cases yx h2;exact z! (bo! i j rfl (gV! h yK)) | _=>exact T! (ig! (zdV r h1 h2 h))
 | tup a=>cases d2 with
  | tup b=>
   obtain⟨l,vs,rfl,q1,q2⟩:=kU h1;obtain⟨l',fk,rfl,gw,dZ⟩:=kU h2;have h:i2! C! H Y ki! (ac! (a.length+pl!<=cap) (a7! (a++b))) Q:=h;split at h
   ·rename_i hl;cases a with
    | nil=>
     subst q2;exact T! (z! ⟨l,l',fk,rfl,rfl,q1,gw,eW! h2⟩) | cons x a=>
     refine ig! (z! ⟨l,l',vs,fk,rfl,rfl,q1,gw,(λz=>by have:=q2.length;rw[z]at this;simp at this),by rw[q2.length,dZ.length];exact z0A hl,λz=>?_,λz=>z4L r h (q2.append dZ)⟩);have eb:b=[]:=by
      have:=dZ.length;rw[z]at this;exact _aX.mp this.symm
     subst eb;rw[_aK]at h;exact eW! h1
   ·exact h.elim | _=>exact T! (ig! (zdV r h1 h2 h))
 | _=>exact T! (ig! (zdV r h1 h2 h))
end
noncomputable def dII(g:Int->Int->R D):D->D->bm!
 | .int i,.int j,s=>match g i j with | .ok d _=>i! d | _=>.no
 | _,_,_=>.no
noncomputable def iOk(d:D):R D:=.ok d []
noncomputable def z8L:D->D->bm!:=lZ! (iOk (c! (i-j)))
noncomputable def yC:D->D->bm!:=lZ! (ac! (eL!<BIG/\kE!<BIG) (iOk (c! (i*j))))
noncomputable def z3Y:D->D->bm!:=lZ! (ac! (0<j/\kE!<BIG) (iOk (c! (i / j))))
noncomputable def zeK:D->D->bm!:=lZ! (ac! (0<j) (iOk (c! (i % j))))
noncomputable def zeL:D->D->bm!:=lZ! (ac! (0<=j/\dn! j/\eL!<fv!) (iOk (c! (i ^ kB!))))
noncomputable def dLt:D->D->bm!:=lZ! (iOk (.bl (dO! i j)))
noncomputable def dLe:D->D->bm!:=lZ! (iOk (.bl (jP! i j)))
noncomputable def dGt:D->D->bm!:=lZ! (iOk (.bl (dO! j i)))
noncomputable def dGe:D->D->bm!:=lZ! (iOk (.bl (jP! j i)))
section
variable {X:Cx}{E:XK}
theorem z1m(h:∀i j d t H Q,g i j=.ok d t->(∀v,(∀H Y,Den C! H Y d v)->Q v H)->r Y! (c! j) H Q):c0! (dII g):=by
 intro H Y s d1 d2 v1 v2 Q rp h1 h2 hq;unfold dII at hq;split at hq
 ·rename_i i j;cases yx h1;cases yx h2;split at hq
  ·rename_i d t e;exact h i j d t H Q e (ls! (hq.here rp (hv H Y)))
  ·exact hq.elim
 ·exact hq.elim
theorem z8l:∃r,gB! .Sub r/\c0! z8L:=bM! zpn (lJ! (by
 simp only[iOk,R.ok.injEq]at e;exact bo! i j rfl (q _ (by intro H Y;rw[<- e.1];exact yK))))
theorem zeW(h:eL!<BIG):Builtin.Int.intBits i<=2 ^ 20:=by
 have q := (PySem.intBits_le_iff ).mpr h;lia
theorem zov:nD! (rI (λi j=>eL!<BIG/\kE!<BIG) (mJ! (i*j))):=opI λ_ _ _ _ _ _ _ hc q=>mul_int q (IntMulOk.of_bits (zeW hc.1) (zeW hc.2))
theorem vh:∃r,nD! r/\c0! yC:=bM! zov (lJ! (by
 split at e
 ·rename_i hc;simp only[iOk,R.ok.injEq]at e;exact⟨i,j,rfl,rfl,hc,q _ (by intro H Y;rw[<- e.1];exact yK)⟩
 ·cases e))
theorem zhh{j:Int}(h:kE!<BIG):j.natAbs.log2<9000:=by
 by_cases h0:kE!=0;·rw[h0];decide +kernel
 ·have := (Nat.log2_lt h0).mpr h;lia
theorem zkY:gB! .FloorDiv (rI (λ_ j=>0<j/\kE!<BIG) (mJ! (i / j))):=opI λi j _ _ _ _ _ hc q=>by
 refine floordiv_int (by lia) ?_ (z! (_bL (zhh hc.2)));rw[_by _ (by lia)];exact q
theorem zcb:∃r,gB! .FloorDiv r/\c0! z3Y:=bM! zkY (lJ! (by
 split at e
 ·rename_i hc;simp only[iOk,R.ok.injEq]at e;exact⟨i,j,rfl,rfl,hc,q _ (by intro H Y;rw[<- e.1];exact yK)⟩
 ·cases e))
theorem zdx:∃r,gB! .Mod r/\c0! zeK:=bM! zpy (lJ! (by
 split at e
 ·rename_i hc;simp only[iOk,R.ok.injEq]at e;exact⟨i,j,rfl,rfl,hc,q _ (by intro H Y;rw[<- e.1];exact yK)⟩
 ·cases e))
theorem zfS:∃r,gB! .Pow r/\c0! zeL:=bM! zr0 (lJ! (by
 split at e
 ·rename_i hc;simp only[iOk,R.ok.injEq]at e;exact⟨i,j,rfl,rfl,⟨hc.1,by lia,by lia⟩,q _ (by intro H Y;rw[<- e.1];exact yK)⟩
 ·cases e))
theorem zui:∃r,dV! .Lt r/\c0! dLt:=bM! zuc (lJ! (by
 simp only[iOk,R.ok.injEq]at e;exact bo! i j rfl (q _ (by intro H Y;rw[<- e.1];exact wS))))
theorem zs8:∃r,dV! .LtE r/\c0! dLe:=bM! zs4 (lJ! (by
 simp only[iOk,R.ok.injEq]at e;exact bo! i j rfl (q _ (by intro H Y;rw[<- e.1];exact wS))))
theorem zp5:∃r,dV! .Gt r/\c0! dGt:=bM! zt7 (lJ! (by
 simp only[iOk,R.ok.injEq]at e;exact bo! i j rfl (q _ (by intro H Y;rw[<- e.1];exact wS))))
theorem zue:∃r,dV! .GtE r/\c0! dGe:=bM! ztt (lJ! (by
 simp only[iOk,R.ok.injEq]at e;exact bo! i j rfl (q _ (by intro H Y;rw[<- e.1];exact wS))))
end
mutual
noncomputable def z86:D->PyData
 | .non=>aa! | .bl b=>k7! | .int i=>Y! | .str x=>bY! | .tup xs=>.tuple o5! | .lst xs=>.list o5! | _=>lv! []
noncomputable def toPys:D!->ee! PyData
 | []=>[] | d::ds=>z86 d::of! ds
end
theorem zvH(i:Int):z86 Y!=Y!:=U!
theorem zvy(x:Str):z86 bY!=bY!:=U!
theorem zqG(xs:D!):z86 ap!=.tuple o5!:=U!
theorem tPn:of! []=[]:=U!
theorem tPc(d:D)(ds:D!):of! (d::ds)=z86 d::of! ds:=U!
theorem zqC(xs:D!):z86 bH!=.list o5!:=U!
noncomputable def eqD(a b:D):Bool:=PyData.eqv (z86 a) (z86 b)
noncomputable def zjp(d:D):Bool:=SeqAt.shaped (z86 d)
noncomputable def dEq(x y:D)(s:Sto):R D:=ac! (zjp x=d!/\zjp y=d!) (aV! (eqD x y))
noncomputable def dNe(x y:D)(s:Sto):R D:=ac! (zjp x=d!/\zjp y=d!) (aV! (! eqD x y))
section
variable {P:Program}{w:World}{mg:Gm}{H:Hp}{Y:bi!}{h:Heap}
mutual
theorem Den.reads(ok:HOk P w H h):∀{d:D}{v:V}{u:Value},lM! (z86 d)->fN!->wV v u->∃as,Reads h u (z86 d) as
 | .non,_,_,_,dn,r=>by obtain rfl:=dn;cases r;exact gy! Reads.none | .bl b,_,_,_,dn,r=>by obtain rfl:=dn;cases r;exact gy! (Reads.bool b) | .int i,_,_,_,dn,r=>by obtain rfl:=dn;obtain⟨t,rfl⟩:=r;exact gy! (Reads.int i t) | .str x,_,_,_,dn,r=>by obtain rfl:=dn;obtain⟨t,rfl⟩:=r;exact gy! (Reads.str x t) | .tup ds,_,_,c,dn,r=>by
  obtain⟨a,vs,rfl,h1,h2⟩:=dn;cases r;obtain⟨_,af,rv,o,e,hc,_,n,hd⟩:=ok a _ h1;obtain⟨as,q⟩:=yp.reads ok c h2 rv;exact⟨as,Reads.tuple e hc hd (by simpa using q)⟩ | .lst ds,_,_,c,dn,r=>by
  obtain⟨a,o,vs,rfl,h1,h2⟩:=dn;cases r;obtain⟨_,_,af,n,rv,e⟩:=ok a _ h1;obtain⟨as,q⟩:=yp.reads ok c h2 rv;exact gy! (Reads.list e rfl rfl (by simpa using q)) | .dct,_,_,c,_,_=>nomatch (c:t!=d!) | .loc _,_,_,c,_,_=>nomatch (c:t!=d!) | .fn _,_,_,c,_,_=>nomatch (c:t!=d!) | .exc _,_,_,c,_,_=>nomatch (c:t!=d!)
theorem yp.reads(ok:HOk P w H h):∀{ds:List D}{vs:List V}{us:List Value},PyData.canLayAll0 (of! ds)=d!->i7!->kh! vs->∃as,ReadsAll h us (of! ds) as
 | [],_,_,_,dn,r=>by obtain rfl:=dn;cases r;exact gy! ReadsAll.nil | d::ds,_,_,c,dn,r=>by
  obtain⟨v,vs,rfl,h1,h2⟩:=dn;have c:=nj! c;cases r with | cons r1 r2=>
   obtain⟨as,q⟩:=Den.reads ok c.1 h1 r1;obtain⟨bs,q'⟩:=yp.reads ok c.2 h2 r2;exact gy! (ReadsAll.cons q q')
end
end
section
variable {X:Cx}{E:XK}
def zvb(mg:Gm)(cb:Bool):R2:=hG! (∃Y d1 d2,iZ! d1 x/\iZ! d2 y/\zjp d1=d!/\zjp d2=d!/\Q (.bl (al! cb (! eqD d1 d2) (eqD d1 d2))) H)
theorem zqK(hu:X.A.units+64<ng!):dV! .Eq (zvb C! t!):=by
 intro ae s O H x y v u Q I rx ry ⟨Y,d1,d2,h1,h2,p1,p2,q⟩;obtain⟨as,ra⟩:=Den.reads eK! (_bk p1) h1 rx;obtain⟨bs,rb⟩:=Den.reads eK! (_bk p2) h2 ry;exact SeqAt.compareEq_shaped ra rb p1 p2 hu (bo! (.bl (eqD d1 d2)) H I q)
theorem zru(hu:X.A.units+64<ng!):dV! .NotEq (zvb C! d!):=by
 intro ae s O H x y v u Q I rx ry ⟨Y,d1,d2,h1,h2,p1,p2,q⟩;obtain⟨as,ra⟩:=Den.reads eK! (_bk p1) h1 rx;obtain⟨bs,rb⟩:=Den.reads eK! (_bk p2) h2 ry;exact SeqAt.compareNe_shaped ra rb p1 p2 hu (bo! (.bl (! eqD d1 d2)) H I q)
theorem z4u(hu:X.A.units+64<ng!):∃r,dV! .Eq r/\c0! dEq:=⟨_,zqK hu,λH Y s d1 d2 v1 v2 Q r h1 h2 h=>by
 unfold dEq at h;split at h
 ·rename_i hc;exact⟨Y,d1,d2,h1,h2,hc.1,hc.2,eW! wS⟩
 ·exact h.elim⟩
theorem z3K(hu:X.A.units+64<ng!):∃r,dV! .NotEq r/\c0! dNe:=⟨_,zru hu,λH Y s d1 d2 v1 v2 Q r h1 h2 h=>by
 unfold dNe at h;split at h
 ·rename_i hc;exact⟨Y,d1,d2,h1,h2,hc.1,hc.2,eW! wS⟩
 ·exact h.elim⟩
noncomputable def zbG:D->bn! V
 | .non=>b! an! | .bl b=>b! hD! | .int i=>e! i | .str x=>b! bY! | _=>none
theorem zca(h:zbG d=b! w)(dn:fN!):v=w/\z8r v=d!:=by cases d<;>first | (cases h;subst dn;exact cf! rfl) | cases h
noncomputable def z2q:D!->bn! aM!
 | []=>b! [] | d::ds=>match zbG d,z2q ds with | some v,some vs=>b! (v::vs) | _,_=>none
theorem z9e: ∀{ds:List D}{vs ws:List V},z2q ds=b! ws->i7!->vs=ws/\vs.all z8r=d!
 | [],_,_,h,dn=>by cases h;subst dn;exact cf! rfl | d::ds,_,_,h,dn=>by
  obtain⟨v,vs,rfl,h1,h2⟩:=dn;simp only[z2q]at h;split at h
  ·rename_i w ws e1 e2;cases h;obtain⟨a1,a2⟩:=zca e1 h1;obtain⟨b1,b2⟩:=z9e e2 h2;exact⟨by rw[a1,b1],by rw[_cg,a2,b2];rfl⟩
  ·cases h
noncomputable def zd4(cb:Bool)(x y:D)(s:Sto):R D:=match zbG x,A! (zW s y) z2q with
 | some v,some vs=>aV! (al! cb (! inV v vs) (inV v vs)) | _,_=>.no
theorem zmt{cb:Bool}:OpF X E (rIn X.K cb) (zd4 cb):=λH Y s d1 d2 v1 v2 Q r h1 h2 h=>by
 unfold zd4 at h;split at h
 ·rename_i v vs e1 e2;cases e3:zW s d2 with
  | none=>rw[e3]at e2;cases e2 | some xs=>
   rw[e3]at e2;obtain⟨a,ws,rfl,q1,q2⟩:=jK r e3 h2;obtain⟨b1,b2⟩:=z9e e2 q2;obtain⟨a1,a2⟩:=zca e1 h1;subst a1 b1;exact⟨a,ws,rfl,q1,a2,b2,eW! wS⟩
 ·exact h.elim
theorem zvc:∃r,dV! .In r/\c0! (zd4 t!):=bM! ziH zmt
theorem znM:∃r,dV! .NotIn r/\c0! (zd4 d!):=bM! zb2 zmt
noncomputable def dIs:D->D->bm!
 | .bl a,.bl b,s=>aV! (a==b) | .non,.non,s=>cj! | .bl _,.non,s=>cg! | .int _,.non,s=>cg! | .str _,.non,s=>cg! | .tup _,.non,s=>cg! | .lst _,.non,s=>cg! | _,_,_=>.no
theorem zra:dV! .Is (hG! (∃a b,x=.bl a/\y=hD!/\Q (.bl (a==b)) H)):=by
 intro ae s O H x y v u Q I rx ry ⟨a,b,e1,e2,q⟩;subst e1 e2;cases rx;cases ry;exact is_bool (bo! (.bl (a==b)) H I q)
theorem zvx:∃r,dV! .Is r/\c0! dIs:=⟨_,zra.or zpb,λH Y s d1 d2 v1 v2 Q r h1 h2 h=>by cases d2 with
 | bl b=>cases d1 with
  | bl a=>cases z0B h1;cases z0B h2;exact z! (bo! _ _ rfl (gV! h wS)) | _=>exact b5! (show False from h)
 | non=>cases d1 with
  | non=>subst h1 h2;exact em! rfl (by exact (gV! h wS)) | bl _=>subst h1 h2;exact em! rfl (by exact (gV! h wS)) | int _=>subst h1 h2;exact em! rfl (by exact (gV! h wS)) | str _=>subst h1 h2;exact em! rfl (by exact (gV! h wS)) | tup _=>obtain⟨a,vs,rfl,_⟩:=h1;subst h2;exact em! rfl (by exact (gV! h wS)) | lst _=>obtain⟨a,o,vs,rfl,_⟩:=h1;subst h2;exact em! rfl (by exact (gV! h wS)) | _=>exact b5! (show False from h)
 | _=>cases d1<;>exact b5! (show False from h)⟩
noncomputable def dIx(x y:D)(s:Sto):R D:=match y,zW s x with
 | .int i,some xs=>match atI xs i with | some d=>i! d | none=>.no
 | _,_=>.no
theorem zk6(h:hu!)(e:atI xs i=g!):∃v,atI vs i=bB!/\fN!:=by
 unfold atI at e ⊢;rw[h.length];cases q:kP! i with
 | none=>rw[q]at e;cases e | some j=>
  rw[q]at e;exact h.get e
theorem zwj:∃r,IxR X r/\c0! dIx:=⟨_,znB.or zqx,λH Y s d1 d2 v1 v2 Q r h1 h2 h=>by
 unfold dIx at h;split at h
 ·rename_i i xs e;split at h
  ·rename_i d e2;cases yx h2;obtain⟨a,vs,rfl,q1,q2⟩:=jK r e h1;obtain⟨v,e3,e4⟩:=zk6 q2 e2;rcases q1 with q1 | q1;·exact z! ⟨a,vs,i,v,rfl,rfl,q1,e3,eW! e4⟩
   ·exact T! ⟨a,vs,i,v,rfl,rfl,q1,e3,eW! e4⟩
  ·exact h.elim
 ·exact h.elim⟩
end
section
variable {X:Cx}{E:XK}{e a b c:Expr}{es:aD!}{pos:Pos}
theorem zD(ho:∃r,gB! op r/\c0! fo)(ha:f6! a)(hb:X! b fb):X! (.BinOp a op b pos) (eOp fo fa fb):=let ⟨_,h⟩:=ho;zvK h ha hb
theorem qE(ho:∃r,dV! op r/\c0! fo)(ha:f6! a)(hb:X! b fb)(hm:pS! b=t!:=by first | exact zmv _ | rfl):X! (.Compare a [op] [b] pos) (eOp fo fa fb):=let ⟨_,h⟩:=ho;zs3 h ha hb hm
noncomputable def tOf(f:FE):FT:=eO! (eb! (match d with | .bl k=>P! k | _=>.no))
theorem zea(h:tT C! E (tOf f) O H Q):zqa (tE C! E f) O H Q:=by
 obtain⟨Y,ρ,s,r,en,h⟩:=h;refine yS (k:=kF! (match d with | .bl k=>P! k | _=>.no)) r en h _ λv H1 Y1 s1 d r1 av dn stp h1=>?_;cases d with
 | bl k=>
  cases z0B dn;exact aB! k (rC! rfl) | _=>exact h1.elim
theorem zZ(ho:∃r,dV! op r/\c0! fo)(ha:f6! a)(hb:X! b fb)(hm:pS! b=t!:=by first | exact zmv _ | rfl):RT X E (.Compare a [op] [b] pos) (eT! fo fa fb):=by
 obtain⟨r,h1,h2⟩:=ho;exact ziJ (znr h1 ha hb hm) λO H Q h=>zfe h2 (zea h)
noncomputable def zfn(fo di:D->D->bm!)(fa fb fc:FE):FE:=b7! (gF! s) (λx s1=>A! gb! (λy s2=>A! (fo x y s2) (λz s3=>match z with
 | .bl true=>A! (fc ρ s3) (λw s4=>di y w s4) | .bl false=>gz! fC! | _=>.no)))
theorem zhV(ho:c0! fo)(bY:OpF X E r' di) (h:tE C! E (zfn fo di fa fb fc) O H Q):zlI r r' (tE C! E fa) (tE C! E fb) (tE C! E fc) O H Q:=by
 obtain⟨Y,ρ,s,rp,en,h⟩:=h;refine yS (k:=lw! (A! gb! (λy s2=>A! (fo x y s2) (λz s3=>match z with
  | .bl true=>A! (fc ρ s3) (λw s4=>di y w s4) | .bl false=>gz! fC! | _=>.no)))) rp en h _ λv H1 Y1 s1 d r1 av dn stp h1=>(yS (k:=fun ρ y s2=>A! (fo d y s2) (λz s3=>match z with
  | .bl true=>A! (fc ρ s3) (λw s4=>di y w s4) | .bl false=>gz! fC! | _=>.no)) r1 av h1 _ λv2 H2 Y2 s2 d2 r2 aZ ax ag h2=>(ho H2 Y2 s2 d d2 v v2 _ r2 lS! ax (de! h2 (λv3 H3 ⟨Y3,s3,d3,aq,cz,h3⟩=>?_))));cases d3 with
 | bl k=>
  cases z0B cz;refine aB! k ?_;cases k with
  | true=> exact yS (k:=fun ρ w s4=>di d2 w s4) aq.rep (aZ.mono aq) h3 _ λv4 H4 Y4 s4 d4 r4 il nj bE h4=>(bY H4 Y4 s4 d2 d4 v2 v4 Q r4 ((ax.mono aq).mono bE) nj h4) | false=> exact oe! h3 aq.rep wS
 | _=>exact h3.elim
theorem znZ(ho:∃r,dV! op r/\c0! fo)(bY:∃r,dV! df r/\c0! di)(ha:f6! a)(hb:X! b fb)(hc:X! c fc) (hm:autoParam (lastMarks [op,df] [b,c]=t!) aWu):X! (.Compare a [op,df] [b,c] pos) (zfn fo di fa fb fc):=by
 obtain⟨r,h1,h2⟩:=ho;obtain⟨r',nq,ci⟩:=bY;exact yq (zkK h1 nq ha hb hc hm) λO H Q h=>zhV h2 ci h
noncomputable def zdt(fa fb:FE):FE:=b7! (gF! s) (λx s1=>match x with | .bl true=>gb! | .bl false=>P! fC! | _=>.no)
noncomputable def zrT(fa:FE):FE:=b7! (gF! s) (λx s1=>match x with | .bl k=>P! (.bl (!k)) | _=>.no)
variable {kH:aD!}
theorem z7b(h:X! a f):X! (hm! op [a]) f:=zpY h
theorem z5E(ha:f6! a)(hb:X! (hm! .And (b::kH)) fb):X! (hm! .And (a::b::kH)) (zdt fa fb):= yq (zpd ha hb) λO H Q ⟨Y,ρ,s,r,en,h⟩=>by
  refine yS (k:=lw! (match x with | .bl true=>gb! | .bl false=>P! fC! | _=>.no)) r en h _ λv H1 Y1 s1 d r1 av dn stp h1=>?_;cases d with
  | bl k=>
   cases z0B dn;refine aB! k ?_;cases k with
   | true=>exact⟨Y1,ρ,s1,r1,av,h1⟩ | false=>exact oe! h1 r1 wS
  | _=>exact h1.elim
theorem zpX(ha:f6! a):X! (.UnaryOp .Not a pos) (zrT fa):= yq (zr6 ha) λO H Q ⟨Y,ρ,s,r,en,h⟩=>by
  refine yS (k:=lw! (match x with | .bl k=>eN! (D.bl (!k)) s1 | _=>.no)) r en h _ λv H1 Y1 s1 d r1 av dn stp h1=>?_;cases d with
  | bl k=>
   cases z0B dn;exact aB! k (oe! h1 r1 wS) | _=>exact h1.elim
noncomputable def zlM(fa fb:FT):FT:=b7! (gF! s) (λx s1=>aF! x gb! (P! t!))
noncomputable def fOr(fa fb:FT):FT:=b7! (gF! s) (λx s1=>aF! x (P! d!) gb!)
noncomputable def jJ(fa:FT):FT:=b7! (gF! s) (λx s1=>P! (!x))
def RW(X:Cx)(E:XK)(e:Expr)(f:FT):k!:=PW X e (tT C! E f)
theorem RW.rt(h:RW X E e f):RT X E e f:=PW.pt h
theorem zlV(h:PW X e t)(i:∀O H Q,t' O H Q->t O H Q):PW X e t':=λwh ae s O H Q I q=>h wh ae s O H Q I (i O H Q q)
theorem zhA(h:RT X E a f):RW X E (hm! .And [a]) f:=zob h
theorem z5u(h:RT X E a f):RW X E (hm! .Or [a]) f:=zqb h
theorem w_and(ha:RT X E a fa)(hb:RW X E (hm! .And (b::kH)) fb):RW X E (hm! .And (a::b::kH)) (zlM fa fb):= zlV (zq8 ha hb) λO H Q ⟨Y,ρ,s,r,en,h⟩=>by
  refine z72 (k:=lw! (aF! x gb! (P! t!))) r en h _ λv H1 Y1 s1 r1 av stp h1=>?_;cases v with
  | true=>exact⟨Y1,ρ,s1,r1,av,h1⟩ | false=>exact rC! rfl
theorem zcY(ha:RT X E a fa)(hb:RW X E (hm! .Or (b::kH)) fb):RW X E (hm! .Or (a::b::kH)) (fOr fa fb):= zlV (ztP ha hb) λO H Q ⟨Y,ρ,s,r,en,h⟩=>by
  refine z72 (k:=lw! (aF! x (P! d!) gb!)) r en h _ λv H1 Y1 s1 r1 av stp h1=>?_;cases v with
  | false=>exact⟨Y1,ρ,s1,r1,av,h1⟩ | true=>exact rC! rfl
theorem qk(ha:RT X E a fa):RT X E (.UnaryOp .Not a pos) (jJ fa):= ziJ (zpF ha) λO H Q ⟨Y,ρ,s,r,en,h⟩=>z72 (k:=lw! (P! (!x))) r en h _ λv H1 Y1 s1 r1 av stp h1=>rC! rfl
theorem vM(h:X! a f)(he:autoParam (∀whole,qf! a aT! whole=(do let v <- whole;standAt a.pos;n3! [v] (truthy v))) aIr):RT X E a (tOf f):= ziJ (zqW h he) λO H Q h=>zea h
noncomputable def eIf(ft:FT)(fa fb:FE):FE:=b7! (ft ρ s) (λx s1=>aF! x (gF! s1) gb!)
theorem zrF(hc:RT X E c ft)(ha:f6! a)(hb:X! b fb):X! (.IfExp c a b pos) (eIf ft fa fb):= yq (zkl hc ha hb) λO H Q ⟨Y,ρ,s,r,en,h⟩=>z72 (k:=lw! (aF! x (gF! s1) gb!)) r en h _ λv H1 Y1 s1 r1 av stp h1=>by cases v with
  | true=>exact⟨Y1,ρ,s1,r1,av,h1⟩ | false=>exact⟨Y1,ρ,s1,r1,av,h1⟩
theorem xD(ha:f6! a)(hb:X! b fb)(hs:zdG b:=by intro _ _;rfl):X! (my! a b) (cl! fa fb):=by
 obtain⟨r,h1,h2⟩:=zwj;exact yq (zq6 h1 ha hb hs) λO H Q h=>zfe h2 h
noncomputable def zj:FA:=λ_ s=>i! []
noncomputable def zb(fa:FE)(fr:FA):FA:=b7! (gF! s) (λx s1=>A! (fr ρ s1) (λxs s2=>bp! (x::xs)))
theorem zh:RA X E [] zj:=zlL z1b λO H Q ⟨Y,ρ,s,r,en,h⟩=>eW! yp.nil
theorem jB(ha:f6! e)(hr:RA X E es fr)(hs:y! (au! (e::es)=dW!::ir!)):RA X E (e::es) (zb fa fr):= zlL (va ha hr hs) λO H Q ⟨Y,ρ,s,r,en,h⟩=>by exact yS (k:=lw! (A! (fr ρ s1) (λxs s2=>bp! (x::xs)))) r en h _ λv H1 Y1 s1 d r1 av dn stp h1=>(je (k:=fun ρ xs s2=>bp! (d::xs)) r1 av h1 _ λvs H2 Y2 s2 ds r2 aZ ax ag h2=>(h2.here r2 (pk! lS! ax)))
noncomputable def vG(f:FA):FE:=b7! ay! (jo! (ac! kn! (P! ap!)))
theorem xy(h:RA X E es f):X! (hF! es x1 pos) (vG f):= yq (zlH h) λO H Q ⟨Y,ρ,s,r,en,h⟩=>by
  refine je (k:=nm! (ac! kn! (eN! (gN! xs) s1))) r en h _ λvs H2 Y2 s2 ds r2 aZ ax ag h2=>?_;split at h2
  ·rename_i hl;exact⟨by rw[ax.length];exact z0A hl,z4L r2 h2 ax⟩
  ·exact h2.elim
noncomputable def qt(f:FA):FE:=b7! ay! (jo! (ac! kn! (P! bH!)))
theorem wY(h:RA X E es f):X! (.List es pos) (qt f):= yq (zmw h).freeze λO H Q ⟨Y,ρ,s,r,en,h⟩=>by
  refine je (k:=nm! (ac! kn! (eN! (D.lst xs) s1))) r en h _ λvs H2 Y2 s2 ds r2 aZ ax ag h2=>?_;split at h2
  ·rename_i hl;exact⟨by rw[ax.length];exact z0A hl,z0L r2 h2 ax⟩
  ·exact h2.elim
noncomputable def zaR(f:FA):FE:=b7! ay! (jo! (ac! (kn!/\dc! xs) (.ok sC! (s1++[xs]))))
theorem zgB{Q:VK}(r:cZ!)(h:dS! H Y (Den mg) (g3! (s++[xs])) Q)(hf:dc! xs)(hd:hu!):∀p,gG!->Q cn! (fP! bQ!):=bs! (by exact h _ _ _ (vN.layL r hp hd hf) ⟨p,rfl,by rw[<- r.len];simp,vs,yB⟩)
theorem z8t(h:RA X E es f):X! (.List es pos) (zaR f):= yq (zmw h) λO H Q ⟨Y,ρ,s,r,en,h⟩=>by
  refine je (k:=nm! (ac! (kn!/\dc! xs) (eN! (D.loc s1.length) (s1++[xs])))) r en h _ λvs H2 Y2 s2 ds r2 aZ ax ag h2=>?_;split at h2
  ·rename_i hl;exact⟨by rw[ax.length];exact z0A hl.1,zgB r2 h2 hl.2 ax⟩
  ·exact h2.elim
def z2v(X:Cx)(E:XK)(r:aM!->Hp->eE!)(g:D!->bm!):k!:= ∀H Y s ds vs (Q:VK),Rep C! H Y s->yp C! H Y ds vs->i2! C! H Y ki! (g ds s) Q->r vs H Q
noncomputable def zg(g:D!->bm!)(f:FA):FE:=b7! ay! (jo! (g xs s1))
theorem zF{p:Pos} {id:String} (hc:∃r,jy! X id r/\z2v X E r g) (hg:e6!) (hm:dM! x) (hv:lk! x=hV! id) (ha:RA X E (e::es) f) (hn:j1! (lQ! x)) (aG:cm! (x==cP!)) (he:y! (au! (e::es)=dW!::ir!)) (au:ea! es (·.1)):X! (do! x p (e::es)) (zg g f):=by
 obtain⟨r,h1,h2⟩:=hc;exact yq (z3x h1 hg hm hv ha hn aG he au) λO H Q ⟨Y,ρ,s,r,en,h⟩=> je (k:=nm! (g xs s1)) r en h _ λvs H2 Y2 s2 ds r2 aZ ax ag h3=>h2 H2 Y2 s2 ds vs Q r2 ax h3
theorem yk{p:Pos} (hc:∃r,wx X kk! r/\z2v X E r g) (hg:e6!) (hm:dM! x) (hv:kO! x kk!) (ha:RA X E (e::es) f) (hn:j1! (lQ! x)) (aG:cm! (x==cP!)) (he:y! (au! (e::es)=dW!::ir!)) (au:ea! es (·.1)):X! (do! x p (e::es)) (zg g f):=by
 obtain⟨r,h1,h2⟩:=hc;exact yq (ziA h1 hg hm hv ha hn aG he au) λO H Q ⟨Y,ρ,s,r,en,h⟩=> je (k:=nm! (g xs s1)) r en h _ λvs H2 Y2 s2 ds r2 aZ ax ag h3=>h2 H2 Y2 s2 ds vs Q r2 ax h3
theorem z2l(h:oM! [d]):∃v,vs=[v]/\fN!:=by
 obtain⟨v,r,rfl,h1,rfl⟩:=h;exact aB! v h1
theorem zaW(h:oM! [d,d']):∃v v',vs=[v,v']/\fN!/\iZ! d' v':=by
 obtain⟨v,r,rfl,h1,v',r',rfl,h2,rfl⟩:=h;exact gW! v v' h1 h2
noncomputable def yF:D!->bm!
 | [d],s=>match zW s d with | some xs=>x! w! | none=>.no
 | _,_=>.no
theorem wX:∃r,jy! X "len" r/\z2v X E r yF:=j4! zbF (by
 unfold yF at h;split at h
 ·split at h
  ·rename_i d xs e;obtain⟨v,rfl,dn⟩:=lc!;obtain⟨a,ws,rfl,q1,q2⟩:=jK r e dn;exact gW! a ws q1 (by rw[q2.length];exact eW! yK)
  ·exact h.elim
 ·exact h.elim)
noncomputable def zV:D!->bm!
 | [d],s=>match zW s d with | some xs=>i! ap! | none=>.no
 | _,_=>.no
theorem yO:∃r,wx X dK! r/\z2v X E r zV:=j4! zaC (by match ds,hd,h with
 | [],_,h=>exact h.elim | _::_::_,_,h=>exact h.elim | [d],hd,h=>
  obtain⟨v,rfl,dn⟩:=lc!;simp only[zV]at h;cases e:zW s d with
  | none=>rw[e]at h;exact h.elim | some xs=>
   rw[e]at h;cases d with
   | tup ys=>
    simp only[zW,_y]at e;subst e;obtain⟨a,ws,rfl,q1,q2⟩:=kU dn;exact fH! a ws (em! q1 (eW! dn)) | lst ys=>
    obtain⟨a,ws,rfl,q1,q2⟩:=yu (d:=hW!) r e dn;exact fH! a ws (z! ⟨z! q1,z4L r h q2⟩) | loc l=>
    obtain⟨a,ws,rfl,q1,q2⟩:=yu (d:=dP!) r e dn;exact fH! a ws (z! ⟨z! q1,z4L r h q2⟩) | scr ys=>
    simp only[zW,_y]at e;subst e;obtain⟨a,ws,rfl,q1,q2⟩:=zm8 dn;exact fH! a ws (z! ⟨q1,z4L r h q2⟩) | _=>simp[zW]at e)
def z2t:D!->bm!
 | [d],s=>match zW s d with | some xs=>i! bH! | none=>.no
 | _,_=>.no
theorem zbq:∃r,wx X dd! r/\z2v X E r z2t:=j4! zcN.freeze (by
 unfold z2t at h;split at h
 ·split at h
  ·rename_i d xs e;obtain⟨v,rfl,dn⟩:=lc!;obtain⟨a,ws,rfl,q1,q2⟩:=jK r e dn;exact gW! a ws q1 (z0L r h q2)
  ·exact h.elim
 ·exact h.elim)
def zeb:D!->bm!
 | [.int i],s=>x! i | [.bl b],s=>x! (al! b 1 0) | _,_=>.no
theorem znE:∃r,wx X (av! et!) r/\z2v X E r zeb:=j4! zi6 (by
 unfold zeb at h;split at h
 ·rename_i i;obtain⟨v,rfl,dn⟩:=lc!;cases yx dn;exact z! (aB! i (eW! yK))
 ·rename_i b;obtain⟨v,rfl,dn⟩:=lc!;cases z0B dn;exact T! (aB! b (eW! yK))
 ·exact h.elim)
noncomputable def zkR:D!->bm!
 | [.int i,.int j],s=>x! (al! (j > i) j i) | _,_=>.no
noncomputable def zlb:D!->bm!
 | [.int i,.int j],s=>x! (al! (j<i) j i) | _,_=>.no
theorem zrD(hc:bW!):∃r,jy! X nH! r/\z2v X E r zkR:=j4! (zhX hc) (by
 unfold zkR at h;split at h
 ·rename_i i j;obtain⟨v,v',rfl,d1,d2⟩:=zaW hd;cases yx d1;cases yx d2;exact fH! i j (eW! yK)
 ·exact h.elim)
theorem zqA(hc:bW!):∃r,jy! X nI! r/\z2v X E r zlb:=j4! (zgM hc) (by
 unfold zlb at h;split at h
 ·rename_i i j;obtain⟨v,v',rfl,d1,d2⟩:=zaW hd;cases yx d1;cases yx d2;exact fH! i j (eW! yK)
 ·exact h.elim)
abbrev FO:=Ev->f4! dt!
def oD(_:Hp)(_:bi!)(a b:dt!):k!:=a=b
def tO(mg:Gm)(E:XK)(f:FO):TO:=gL! (∃Y ρ s,cZ!/\fL! H Y O/\dS! H Y oD ay! Q)
def RO(X:Cx)(E:XK)(e:r7!)(f:FO):k!:=PO X e (tO C! E f)
theorem zlJ(h:PO X o t)(i:∀O H Q,t' O H Q->t O H Q):PO X o t':=λae s O H Q I q=>h ae s O H Q I (i O H Q q)
noncomputable def zE:FO:=λ_ s=>i! a!
noncomputable def yD(f:FE):FO:=eO! (eb! (match d with | .int i=>P! is! | _=>.no))
theorem xF:RO X E a! zE:=zlJ zhz λO H Q ⟨Y,ρ,s,r,en,h⟩=>eW! rfl
theorem xB(h:fq! f):RO X E l! (yD f):=zlJ (zo9 h) λO H Q ⟨Y,ρ,s,r,en,h⟩=>by
 refine yS (k:=kF! (match d with | .int i=>P! is! | _=>.no)) r en h _ λv H1 Y1 s1 d r1 av dn stp h1=>?_;cases d with
 | int i=>cases yx dn;exact aB! i (rC! rfl) | _=>exact h1.elim
noncomputable def cutD(xs:D!)(lo hi:dt!):D!:=(li! (ic! 0 lo)).take (ic! w! hi-ic! 0 lo)
theorem z9R(h:hu!)(lo hi:dt!):gw! H Y (cutD xs lo hi) (zoZ vs lo hi):=by
 unfold cutD zoZ;rw[h.length];exact (h.drop _).take _
noncomputable def dSl(x:D)(lo hi:dt!)(s:Sto):R D:=match x with
 | .tup xs=>a7! (cutD xs lo hi) | x=>match l0! x with | some xs=>bA! (cutD xs lo hi) | none=>.no
noncomputable def eSl(fe:FE)(fl fh:FO):FE:=b7! (fe ρ s) (λx s1=>A! (fl ρ s1) (λlo s2=>A! (fh ρ s2) (λhi s3=>dSl x lo hi s3)))
theorem zdM{k:Ev->dt!->f4! α} {Q:β->cz!} (r:cZ!)(en:fL! H Y O) (h:dS! H Y Dn (j8! (k ρ)) Q)(K:dt!->cz!) (hK:∀v H1 Y1 s1,Rep mg H1 Y1 s1->fL! H1 Y1 O->vN mg H Y H1 Y1 s1->dS! H1 Y1 Dn (k ρ v s1) Q->K v H1):tO mg E f O H K:= ⟨Y,ρ,s,r,en,de! h (λv H1 ⟨Y1,s1,d,stp,dn,q⟩=>hK v H1 Y1 s1 dH! if! stp (by cases (dn);exact q))⟩
theorem yN{lo hi:r7!} (he:fq! fe)(hl:RO X E lo fl)(hh:RO X E hi fh):X! (my! e (.Slice lo hi a! p2)) (eSl fe fl fh):= yq (zeH ((zq1.or zoF).or zmU.freeze) he hl hh) λO H Q ⟨Y,ρ,s,r,en,h⟩=>by
  refine yS (k:=lw! (A! (fl ρ s1) (λlo s2=>A! (fh ρ s2) (λhi s3=>dSl x lo hi s3)))) r en h _ λv H1 Y1 s1 d r1 av dn stp h1=>(zdM (k:=fun ρ lo s2=>A! (fh ρ s2) (λhi s3=>dSl d lo hi s3)) r1 av h1 _ λlo H2 Y2 s2 r2 aZ ag h2=>?_);refine zdM (k:=fun ρ hi s3=>dSl d lo hi s3) r2 aZ h2 _ λhi H3 Y3 s3 r3 nr aq h3=>?_;have cz:=(lS!).mono aq;cases d with
  | tup xs=>
   obtain⟨a,vs,rfl,q1,q2⟩:=kU cz;have d8:i2! C! H3 Y3 ki! (gz! (n! (cutD xs lo hi))) Q:=h3;by_cases hw:n8! dG! 0 lo=0/\n8! dG! dG! hi=dG!
   ·refine z! (T! ⟨a,vs,rfl,q1,hw,?_⟩);rw[(show cutD xs lo hi=xs from by
     unfold cutD;rw[<- q2.length,hw.1,hw.2];simp[q2.length])]at d8;exact d8.here r3 cz
   ·exact z! (z! ⟨a,vs,rfl,q1,hw,z4L r3 d8 (z9R q2 lo hi)⟩) | lst xs=>
   obtain⟨a,vs,rfl,q1,q2⟩:=yu r3 rfl cz;exact T! ⟨a,vs,rfl,z! q1,z0L r3 h3 (z9R q2 lo hi)⟩ | loc l=>
   simp only[dSl]at h3;split at h3
   ·rename_i xs e;obtain⟨a,vs,rfl,q1,q2⟩:=yu r3 e cz;exact T! ⟨a,vs,rfl,z! q1,z0L r3 h3 (z9R q2 lo hi)⟩
   ·exact h3.elim | _=>exact h3.elim
end
abbrev Mir:=D!->bm!
def zjR(mg:Gm)(M:Mir):Sp:=λvs H Q E=>∃Y s ds,cZ!/\i7!/\dS! H Y (Den mg) (M ds s) Q
def Has(P:Program)(w:World)(K:W.Frag)(mg:Str->aL!)(base:Heap)(CX:CXT)(x:Str)(n:Nat)(M:Mir):k!:= ∃f fd ps,z9Z P w K mg R! CX n f fd ps (zjR ⟨mg,K⟩ M)/\km! K ps []/\oV! K f=d!/\mg x=a0! f
section
variable {X:Cx}{E:XK}{e a b c:Expr}{es:aD!}{pos:Pos}{CX:CXT}
theorem zrr{p:Pos} (F:Has aO! X.w X.K fw! fa! CX x n M) (hr:z2z n X.A) (hx:kV! X E) (hg:e6!) (ha:RA X E (e::es) f) (aG:cm! (x==cP!)) (he:y! (au! (e::es)=dW!::ir!)) (au:ea! es (·.1)):X! (do! x p (e::es)) (zg M f):=by
 obtain⟨fa,fd,ps,F,hb,hk,hm⟩:=F;refine yq (znd F hr hg hm hk hb cB! hx ha aG he au) λO H Q ⟨Y,ρ,s,r,en,h⟩=>(je (k:=nm! (M xs s1)) r en h _ λvs H2 Y2 s2 ds r2 aZ ax ag h3=>?_);rw[_aK];exact⟨Y2,s2,ds,r2,ax,h3⟩
noncomputable def zA(f g:FS):FS:=b7! ay! (λfl s1=>match fl with | .nx ρ'=>g ρ' s1 | fl=>P! fl)
noncomputable def yV:FS:=eO! (aW! ρ)
variable {st:Stmt}{rs:ny!}
theorem zqu{D:znW} (h:tS mg E (zA f g) D O H):zv0 (tS mg E f) (tS mg E g) D O H:=by
 obtain⟨Y,ρ,s,r,en,h⟩:=h;refine⟨Y,ρ,s,r,en,de! h (λfv H1 ⟨Y1,s1,fl,stp,dn,q⟩=>?_)⟩;cases fl with
 | nx ρ'=> cases fv with
  | nx O'=>exact⟨Y1,ρ',s1,dH!,dn,q⟩ | _=>exact b5! dn
 | rt d=> cases fv with
  | rt v=>exact okR.here (Q:=zhZ D) q stp.rep dn | _=>exact b5! dn
 | bk ρ'=> cases fv with
  | bk v=>exact okR.here (Q:=zhZ D) q stp.rep dn | _=>exact b5! dn
 | ct ρ'=> cases fv with
  | ct v=>exact okR.here (Q:=zhZ D) q stp.rep dn | _=>exact b5! dn
theorem yy:RSs X E [] yV:=zi7 zn0 λD O H ⟨Y,ρ,s,r,en,h⟩=>okR.here (b:=nn! O) h r en
theorem zi(h1:RS X E st f)(h2:RSs X E rs g):RSs X E (st::rs) (zA f g):=zi7 (zjA h1 h2) λD O H h=>zqu h
theorem zp(h1:RS X E st f):RSs X E [st] f:=zmZ h1
noncomputable def fNo:FS:=λ_ _=>.no
theorem z6o:RS X E st fNo:=z0z zjK λD O H ⟨_,_,_,_,_,h⟩=>h
noncomputable def wy(f:FE):FS:=b7! ay! (λ_ s1=>g6! ρ)
theorem vn(he:fq! f)(hs:y! (mu! e a! n4!=mE!)):RS X E (.Expr e pos) (wy f):= z0z (zo6 he hs) λD O H ⟨Y,ρ,s,r,en,h⟩=>yS (k:=fun ρ _ s1=>eN! (Fl.nx ρ) s1) r en h _ λv H1 Y1 s1 d r1 av dn stp h1=>okR.here (b:=nn! O) h1 r1 av
noncomputable def xb(f:FE):FS:=eO! (eb! (P! (.rt d)))
theorem zO(he:fq! f):RS X E (.Return l! pos) (xb f):= z0z (zpG he) λD O H ⟨Y,ρ,s,r,en,h⟩=>yS (k:=kF! (eN! (Fl.rt d) s1)) r en h _ λv H1 Y1 s1 d r1 av dn stp h1=>okR.here (b:=FlV.rt v) h1 r1 dn
noncomputable def fIf(ft:FT)(f g:FS):FS:=b7! (ft ρ s) (λx s1=>aF! x (f ρ s1) (g ρ s1))
theorem kY(hc:RT X E c ft)(ha:RSs X E as f)(hb:RSs X E bs g):RS X E (.If c as bs pos) (fIf ft f g):= z0z (zus hc ha hb) λD O H ⟨Y,ρ,s,r,en,h⟩=>z72 (k:=lw! (aF! x (f ρ s1) (g ρ s1))) r en h _ λv H1 Y1 s1 r1 av stp h1=>by cases v with
  | true=>exact⟨Y1,ρ,s1,r1,av,h1⟩ | false=>exact⟨Y1,ρ,s1,r1,av,h1⟩
abbrev FG:=D->Ev->f4! Ev
def tG(mg:Gm)(E:XK)(f:FG):TG:=λv O H Q=>∃Y ρ s d,cZ!/\fL! H Y O/\fN!/\dS! H Y (z0u mg) (f d ρ s) (λO' H'=>Q O' H')
def RG(X:Cx)(E:XK)(tg:Expr)(f:FG):k!:=PG X tg (tG C! E f)
theorem zgw(h:PG X tg t)(i:∀v O H Q,t' v O H Q->t v O H Q):PG X tg t':=λae s O H v u Q I r q=>h ae s O H v u Q I r (i v O H Q q)
noncomputable def yg(i:Nat):FG:=λd ρ s=>i! (ij! g!)
theorem qM(i:Nat) (hN:X.N.Nodup)(hi:y! (f5! x))(hx:ky! x)(hf:gT! (f3! x\/eU! x)):RG X E mW! (yg i):= zgw (zL hN hi hx hf) λv O H Q ⟨Y,ρ,s,d,r,en,dn,h⟩=>gV! h (en.set dn i)
noncomputable def yT(i j:Nat):FG:=λd ρ s=>match d with | .tup [x,y]=>i! (gX! (ij! fk!) j y) | _=>.no
theorem z2T(i j:Nat){x y:Str}{px py:Pos}{kt:Nat}(hc:bW!)(hN:X.N.Nodup)(hi:y! (f5! x))(hj:y! (G! X.N j y))(hx:ky! x)(hy:ky! y) (hf:gT! (f3! x\/eU! x))(fm:gT! (f3! y\/eU! y)): RG X E (iV! [fe! px,ge!] pos) (yT i j):= zgw (ziv hc (z0r (zL hN hi hx hf) (z0r (zL hN hj hy fm) zdS))) λv O H Q ⟨Y,ρ,s,d,r,en,dn,h⟩=>by
  unfold yT at h;split at h
  ·obtain⟨p,vs,rfl,q1,q2⟩:=kU dn;obtain⟨v1,v2,rfl,e1,e2⟩:=zaW q2;exact⟨p,[v1,v2],rfl,q1,rfl,v1,[v2],rfl,v2,[],rfl,rfl,gV! h ((en.set e1 i).set e2 j)⟩
  ·exact h.elim
noncomputable def yz(i:Nat)(f:FE):FS:=eO! (eb! (g6! (ij! g!)))
theorem zX(i:Nat) {cB:Pos} (hN:X.N.Nodup)(he:fq! f)(hi:y! (f5! x))(hx:ky! x)(hs:y! (mu! e (b! (fe! cB)) n4!=mE!)) (hf:gT! (f3! x\/eU! x)):RS X E (.Assign [fe! cB] e pos) (yz i f):= z0z (zro hN hi hx he hs hf) λD O H ⟨Y,ρ,s,r,en,h⟩=>yS (k:=kF! (eN! (Fl.nx (ij! g!)) s1)) r en h _ λv H1 Y1 s1 d r1 av dn stp h1=>okR.here (b:=nn! (lY! i)) h1 r1 (av.set dn i)
noncomputable def zgl(f:FE)(g:FG):FS:=eO! (eb! (A! (g d ρ s1) (fun ρ' s2=>K! ρ' s2)))
theorem z9x(he:fq! f)(hg:RG X E tg g)(hs:y! (rS! [tg] e aT!=mE!))(hw:y! (rV! [tg] e=dY! a!)) (h1:y! ((oG! [tg]).map (·.2)=[assign tg aT!])):RS X E (.Assign [tg] e pos) (zgl f g):= z0z (zm0 he hg hs hw h1) λD O H ⟨Y,ρ,s,r,en,h⟩=>yS (k:=kF! (A! (g d ρ s1) (fun ρ' s2=>eN! (Fl.nx ρ') s2))) r en h _ λv H1 Y1 s1 d r1 av dn stp h1=> ⟨Y1,ρ,s1,d,r1,av,dn,de! h1 (λO' H' ⟨Y2,s2,ρ',ag,aZ,q⟩=>okR.here (b:=nn! O') q ag.rep aZ)⟩
noncomputable def zrR(i j:Nat)(f:FA):FS:=b7! ay! (iJ! (match ds with | [x,y]=>g6! (gX! (ij! fk!) j y) | _=>.no))
theorem zre(i j:Nat){x y:Str}{px py pt:Pos}{kt k2:Nat}{dY:Pos} (hc:bW!)(hN:X.N.Nodup)(ha:RA X E [a,b] f)(hi:y! (f5! x))(hj:y! (G! X.N j y))(aJ:j1! (i≠j)) (hx:y! (eU! x))(hy:y! (eU! y)) (hw:y! (rV! [iV! [fe! px,ge!] pt] (hF! [a,b] k2 dY)=dY! (b! [x,y]))) (hs:y! (rS! [iV! [fe! px,ge!] pt] (hF! [a,b] k2 dY) aT!=mE!)): RS X E (.Assign [iV! [fe! px,ge!] pt] (hF! [a,b] k2 dY) pos) (zrR i j f):= z0z (zqi hc hN hi hj aJ hx hy ha hw hs) λD O H ⟨Y,ρ,s,r,en,h⟩=>by
  refine je (k:=fun ρ ds s1=>match ds with | [x,y]=>eN! (Fl.nx (gX! (ij! fk!) j y)) s1 | _=>.no) r en h _ λvs H1 Y1 s1 ds r1 av dn stp h1=>?_;match ds,dn,h1 with
  | [],_,h1=>exact h1.elim | [_],_,h1=>exact h1.elim | _::_::_::_,_,h1=>exact h1.elim | [d1,d2],dn,h1=>
   obtain⟨v1,v2,rfl,e1,e2⟩:=zaW dn;exact fH! v1 v2 (okR.here (b:=nn! (gX! (O.set i (b! v1)) j v2)) h1 r1 ((av.set e1 i).set e2 j))
noncomputable def z1g(fo fi fv:FE):FS:=b7! (fv ρ s) (λd s1=>A! (fo ρ s1) (λo s2=>A! (fi ρ s2) (λi s3=>match o,i with
 | .loc l,.int k=>match s3[l]? with
  | some xs=>match kP! k with
   | some j=>ac! mQ! (K! ρ (s3.set l (iB! j d))) | none=>.no
  | none=>.no
 | _,_=>.no)))
theorem zb6:∀{xs:List D}{d:D}{j:Nat},dc! xs->mQ!->dc! (iB! j d)
 | [],_,_,_,_=>rfl | x::xs,d,0,h,hd=>by
  simp only[flC,flN,_R,_B]at h ⊢;exact aw! hd h.2 | x::xs,d,j+1,h,hd=>by
  simp only[flC,flN,_R,_E]at h ⊢;exact⟨h.1,zb6 h.2 hd⟩
theorem z56:∀{xs ys:List D},dc! xs->dc! ys->dc! (xs++ys)
 | [],_,_,h=>h | x::xs,ys,h,h'=>by
  simp only[flC,flN,_R,_bf]at h ⊢;exact⟨h.1,z56 h.2 h'⟩
theorem z1i(hv:fq! fv)(ho:X! o fo)(hi:X! i fi) (ha:∀v,assign (rv! o i) aT! v=(do
   let ov <- n3! [v] gC! let iv <- n3! [v,ov] (hk! i)
   standAt p1
   n3! [v,ov,iv] (setItem ov iv v)
   release [v,ov,iv] []):=by intro _;rfl) (hs:y! (rS! [rv! o i] e aT!=mE!))(hw:y! (rV! [rv! o i] e=dY! a!)) (h1:y! ((oG! [rv! o i]).map (·.2)=[assign (rv! o i) aT!])):RS X E (.Assign [rv! o i] e pos) (z1g fo fi fv):= z0z (zm0 hv (zp8 ho hi set_list ha) hs hw h1) λD O H ⟨Y,ρ,s,r,en,h⟩=>by
  refine⟨Y,ρ,s,r,en,de! h (λv H1 ⟨Y1,s1,d,stp,dn,h1⟩=>⟨Y1,ρ,s1,dH!,if!,de! h1 (λov H2 ⟨Y2,s2,od,ag,ax,h2⟩=>⟨Y2,ρ,s2,jp!,(if!).mono ag,de! h2 (λiv H3 ⟨Y3,s3,id,aq,cz,h3⟩=>?_)⟩)⟩)⟩;have dv:=(lS!).mono aq;have nt:=ax.mono aq;cases od with
  | loc l=> cases id with
   | int k=>
    simp only at h3;split at h3
    ·rename_i xs ex;split at h3
     ·rename_i j ej;split at h3
      ·rename_i hf;cases yx cz;obtain⟨a,rfl,e1,ka⟩:=nt;obtain⟨vs,q1,q2⟩:=aq.rep.at_ ex e1 ka;have bE:=vN.put aq.rep e1 ka (q2.set j dv) (zb6 (aq.rep.flat xs (_x ex)) hf);exact⟨a,vs,k,j,rfl,rfl,q1,by rw[q2.length];exact ej,h3 (.nx O) _ _ bE ((((if!).mono ag).mono aq).mono bE)⟩
      ·exact h3.elim
     ·exact h3.elim
    ·exact h3.elim | _=>exact h3.elim
  | _=>exact h3.elim
noncomputable def zdB(fo fv:FE):FE:=b7! (fo ρ s) (λo s1=>match o with
 | .loc l=>A! (fv ρ s1) (λd s2=>match s2[l]? with
  | some xs=>ac! (mQ!/\w!<cap) (.ok an! (og! l (xs++[d]))) | none=>.no)
 | _=>.no)
theorem z0n{ap:Pos} (ho:X! o fo)(hv:fq! fv)(am:y! (lL! o "append" gC!=gC!)) (aH:di! (ht! (hO! pos [e]) (! x.1)&&ht! (nF! pos []) (gl! x.1) && a5! (v! [e]+v! ([]:gU!)+(nv! ([]:gU!) 0 1)<30))) (ai:di! (sp! n4!))(hs:y! (au! [e]=dW!::au! []))(aw:ea! [] (·.1)): X! (fz! (mB! o "append") [e] [] pos) (zdB fo fv):= yq (zoz _bT PySem.F.slot_list_append PySem.F.type_list_append zi2 ho (va hv z1b hs) am aH ai hs aw) λO H Q ⟨Y,ρ,s,r,en,h⟩=>by
  refine⟨Y,ρ,s,r,en,de! h (λov H1 ⟨Y1,s1,od,stp,dn,h1⟩=>?_)⟩;cases od with
  | loc l=>
   refine aw! (by
    obtain⟨a,rfl,e1,vs,e2⟩:=dn;exact z! ⟨rfl,vs,z! (z! e2)⟩) ⟨Y1,ρ,s1,dH!,if!,de! h1 (λv H2 ⟨Y2,s2,d,ag,ax,h2⟩=>?_)⟩;split at h2
   ·rename_i xs ex;split at h2
    ·rename_i hf;obtain⟨a,rfl,e1,ka⟩:=lS!;obtain⟨vs,q1,q2⟩:=ag.rep.at_ ex e1 ka;refine⟨a,vs,v,rfl,rfl,q1,by rw[q2.length];exact zrm hf.2,h2 an! _ _ (vN.put jp! e1 ka (q2.append (yp.one ax)) (z56 (ag.rep.flat xs (_x ex)) (by simp[flC,flN,hf.1]))) (by rfl)⟩
    ·exact h2.elim
   ·exact h2.elim | _=>exact h1.elim
end
end Dd
namespace L2
theorem zqQ(hl:V! l tl):PI X tg l (λO H R=>tl O H (hE! (∃a,x=ag!/\(((∃xs,SqL X.K H1 a xs)/\R (Itl X.K a) H1)\/((∃xs,SqT X.K H1 a xs)/\R (Itt X.K a) H1))))):=by
 refine λae s O H R I h=>thn (hl ae s O H _ I h) λv s1 ⟨x,H1,I1,r1,q1⟩=>?_;obtain⟨a,e,q⟩:=q1;subst e;cases r1;rcases q with⟨⟨xs,hq⟩,q⟩ | ⟨⟨xs,hq⟩,q⟩
 ·obtain⟨af,rv,p,hz⟩:=I1.list hq;refine wpAny_pyIter_list p.isList ⟨iH!,[iH!],_,_,H1,rfl,n5! (lW! _ e),zhW a _,fH! _ g9! rfl,cr! ?_,q⟩;have e:b=iH!:=by simpa using hb
  subst e;exact rT! ak! ak!
 ·obtain⟨af,rv,p,hz⟩:=I1.tuple hq;refine wpAny_pyIter_tuple (p) ⟨iH!,[iH!],_,_,H1,rfl,n5! (lW! _ e),zg8 a _,fH! _ g9! rfl,cr! ?_,q⟩;have e:b=iH!:=by simpa using hb
  subst e;exact rT! ak! ak!
theorem z5O.freeze(h:z5O X ae O C (zki Q) acc s'):z5O X ae O C Q acc s':=by
 obtain⟨v,Hf,I,r,⟨a,xs,rfl,ha,q⟩,hm,f⟩:=h;obtain⟨af,n,rv,e,_⟩:=I.lst ha;refine⟨_,_,I.freeze ha e (by intro _ z;cases z) (by intro _ _ z;cases z) (by intro _ z;cases z) (by intro _ z;cases z),r,q _,hm,?_,f.2⟩;rw[zM (λz=>by have:=f.1;rw[z,ha]at this;cases this)];exact f.1
theorem zde{pos aF py:Pos} (N':ao!)(mp:eY!)(hN:X.N.Nodup)(hy:f5! y)(cJ:rg! y) (hc:bW!)(hi:PI X tg h6! wi)(hg:lT! cA! tg g)(ht:lR! cA! aC ti)(he:∀ex s H,PE cA! az te) (aV:kc!)(aR:∀y∈scope.names,jT! y.1=b! y.2) (aI:∀y∈scope.names,y.2=bV!->fT! y.1=dz!\/fT! y.1=b! bV!)(aX:ku! N' mp=d!) (hs:lb! (k4! x=la!)) (cK:y! (mu! (gd! [gE! 0]) (b! ge!) qt!=rz!)) (hf:gT! (f3! y\/eU! y)): PS X (.Assign [ge!] (gd! [gE! 0]) aF) (lp! (zlf wi mp g ti te O H (zki λv H'=>D.nx (lY! i) H'))):=by
 intro ae s O H D I h;rw[exec_Assign_Name_used _ _ _ _ cK];refine _a (_cf (_a (_a (_aa (_bK rfl hs (z0o λy hy hf=>I.ok.has _ (aI y hy hf)) aV (λy hy hl=>by rw[aR y hy,hl]) (thn (hi ae s O H _ I h) λxv s₁ h₁=>thn h₁ λeN s₂ h₂=>?_)) (λ_ s' hq=>_m (_m hq)) λ_ _ e=>e))));obtain⟨it,fp,tn,J,H2,e,I2,T,bn,f2,W,w0,turn⟩:=h₂;subst e;refine z40 hc hg ht he aV aR aI aX I2 T bn f2 W w0 turn ?_;intro acc C s' hd;obtain⟨v,Hf,I3,r,q,⟨m,hm⟩,f⟩:=hd.freeze;exact _cU (z7C I3 hN hy cJ r (λeP I4 ⟨a,sb,ha⟩=>⟨m,hm.sameBut sb (by
  rcases ha with z | z;·rw[z];exact f.2.1
  ·exact _bN (f.2.2.2.2.1 y a z)),λh' ij=>⟨_,Hf,z2y I4 f ij,q⟩⟩) hf)
end L2
namespace Dd
open L2
noncomputable abbrev ItD:=D!×gr! Nat D!
def okG(g:gr! Nat D!)(all:D!)(s:Sto):k!:=∀p∈g,G! s p.1 p.2
def ztW(mg:Gm)(H0:Hp)(Y0:bi!)(a:ItD)(J:It):k!:=∀H Y s,vN mg H0 Y0 H Y s->okG a.2 a.1 s->∀i:Nat, (∀d,am! a.1 d->J.go i H/\∀x H',J.yld i H x H'->∃Y',vN mg H Y H' Y' s/\rh! H' Y' d x)/\(v! a.1<=i->J.stop i H)
abbrev FI:=Ev->f4! ItD
def tI(mg:Gm)(E:XK)(f:FI):TI:=λO H Rr=>∃Y ρ s,cZ!/\fL! H Y O/\dS! H Y (ztW mg) ay! Rr
def RI(X:Cx)(E:XK)(tg it:Expr)(f:FI):k!:=PI X tg it (tI C! E f)
section
variable {X:Cx}{E:XK}{e a b c tg:Expr}{es:aD!}{pos:Pos}{CX:CXT}
theorem z8G(h:PI X tg it t)(i:∀O H Q,t' O H Q->t O H Q):PI X tg it t':=λae s O H Q I q=>h ae s O H Q I (i O H Q q)
noncomputable def zP(f:FE):FI:=eO! (eb! (match d with
 | .tup xs=>P! (xs,[]) | .lst xs=>P! (xs,[]) | .loc l=>match s1[l]? with | some xs=>P! (xs,[(l,xs)]) | none=>.no
 | _=>.no))
theorem wq(h:fq! f):RI X E tg e (zP f):=z8G (zqQ h) λO H Q ⟨Y,ρ,s,r,en,h⟩=>by
 refine⟨Y,ρ,s,r,en,de! h (λv H1 ⟨Y1,s1,d,stp,dn,h1⟩=>?_)⟩;have lst:∀(a:Addr)(xs:List D)(g:List (Nat×List D)),(∀H2 Y2 s2,vN C! H1 Y1 H2 Y2 s2->okG g xs s2->∃ws,SqL X.K H2 a ws/\yp C! H2 Y2 xs ws)->ztW C! H1 Y1 (xs,g) (Itl X.K a):=λa xs g hq H2 Y2 s2 ag hg i=>by
  obtain⟨ws,q1,q2⟩:=hq H2 Y2 s2 ag hg;refine⟨hI! ?_,λhl=>⟨ws,q1,by rw[q2.length];exact hl⟩⟩;obtain⟨v,e1,e2⟩:=q2.get hd;refine⟨⟨ws,v,q1,e1⟩,λx H' ⟨e3,y⟩=>?_⟩;subst e3;have e4:=y ws q1;rw[e1]at e4;cases e4;exact⟨Y2,.refl jp!,e2⟩
 have tup:∀(a:Addr)(xs:List D),(∀H2 Y2 s2,vN C! H1 Y1 H2 Y2 s2->∃ws,SqT X.K H2 a ws/\yp C! H2 Y2 xs ws)->ztW C! H1 Y1 (xs,[]) (Itt X.K a):=λa xs hq H2 Y2 s2 ag hg i=>by
  obtain⟨ws,q1,q2⟩:=hq H2 Y2 s2 ag;refine⟨hI! ?_,λhl=>⟨ws,q1,by rw[q2.length];exact hl⟩⟩;obtain⟨v,e1,e2⟩:=q2.get hd;refine⟨⟨ws,v,q1,e1⟩,λx H' ⟨e3,y⟩=>?_⟩;subst e3;have e4:=y ws q1;rw[e1]at e4;cases e4;exact⟨Y2,.refl jp!,e2⟩
 cases d with
 | tup xs=>
  obtain⟨a,vs,rfl,q1,q2⟩:=kU dn;refine aB! a (em! (aw! vs q1) (oI! (tup a xs λH2 Y2 s2 ag=>?_)));obtain⟨a',ws,e,q3,q4⟩:=kU lS!;cases e;exact aN! ws q3 q4 | lst xs=>
  obtain⟨a,vs,rfl,q1,q2⟩:=yu dH! rfl dn;refine aB! a (z! ⟨⟨vs,z! q1⟩,oI! (lst a xs [] λH2 Y2 s2 ag _=>?_)⟩);obtain⟨a',ws,e,q3,q4⟩:=yu jp! rfl lS!;cases e;exact⟨ws,z! q3,q4⟩ | loc l=>
  simp only at h1;split at h1
  ·rename_i xs ex;obtain⟨a,vs,rfl,q1,q2⟩:=yu (d:=dP!) stp.rep ex dn;refine aB! a (z! ⟨⟨vs,z! q1⟩,oI! (lst a xs [(l,xs)] λH2 Y2 s2 ag hg=>?_)⟩);obtain⟨a',ws,e,q3,q4⟩:=yu (d:=dP!) ag.rep (hg (l,xs) (by simp)) lS!;cases e;exact⟨ws,z! q3,q4⟩
  ·exact h1.elim | _=>exact h1.elim
end
section
variable {X:Cx}{E:XK}{e a b c tg:Expr}{es:aD!}{pos:Pos}{CX:CXT}
noncomputable def yt(n:Nat):D!:=aP! n (λ(k:Nat)=>aK! (ab! k))
noncomputable def jW(f:FA):FI:=b7! ay! (iJ! (match ds with
 | [.int j]=>ac! (-(2 ^ 62)<=j/\j<2 ^ 62) (P! (sb!,[])) | _=>.no))
theorem wm(hg:o2!)(hm:dM! ft!)(ha:RA X E [a] f)(hs:y! (au! [a]=[d1! a])):RI X E tg (do! ft! p [a]) (jW f):= z8G (zj2 hg hm ha hs) λO H Q ⟨Y,ρ,s,r,en,h⟩=>by
  refine⟨Y,ρ,s,r,en,de! h (λvs H1 ⟨Y1,s1,ds,stp,dn,h1⟩=>?_)⟩;split at h1
  ·rename_i j;split at h1
   ·rename_i hj;obtain⟨v,rfl,d1⟩:=z2l dn;cases yx d1;refine⟨j,rfl,hj.1,hj.2,oI! (λH2 Y2 s2 ag _ i=>⟨hI! ?_,λhl=>?_⟩)⟩
    ·have hi:i<kB!:=by simpa[yt] using (cV! hd)
     refine⟨hi,λx H' ⟨e1,e2⟩=>?_⟩;subst e1 e2;refine⟨Y2,.refl jp!,?_⟩;rw[(show d=aK! i from by
      simp only[yt,_C,_aF hi,_ah,_y]at hd;exact hd.symm)];exact _aM V.int (Int.zero_add _)
    ·rw[<- (show v! sb!=kB! from by simp[yt])];exact hl
   ·exact h1.elim
  ·exact h1.elim
open Classical in
noncomputable def yU(g:gr! Nat D!)(all:D!)(body:D->Ev->f4! Fl):D!->Ev->f4! Fl
 | [],ρ,s=>ac! (okG g all s) (aW! ρ) | x::xs,ρ,s=>ac! (okG g all s) (A! (body x ρ s) (λfl s1=>match fl with
   | .nx ρ'=>yU g all dF! xs ρ' s1 | .ct ρ'=>yU g all dF! xs ρ' s1 | .bk ρ'=>g6! ρ' | .rt d=>P! (.rt d)))
noncomputable def z5S(fi:FI)(fg:FG)(fb:FS):FS:=b7! (fi ρ s) (λit s1=>yU it.2 it.1 (eA! (fg d ρ s) (fb ρ' s')) it.1 ρ s1)
theorem z0I(hp:PassesOwn (oQ! X.w) X.A aT! X.xe)(hc:bW!)(hi:RI X E tg h6! fi)(hg:RG X E tg fg)(hb:RSs X E dF! fb) (hs:lb! (k4! x=la!)):RS X E (.For tg h6! dF! [] pos) (z5S fi fg fb):= z0z (zqk hp hc hi hg hb hs) λD O H ⟨Y,ρ,s,r,en,h⟩=>by
  refine⟨Y,ρ,s,r,en,de! h (λJ H1 ⟨Y1,s1,it,stp,ok,h1⟩=>?_)⟩;obtain⟨items,g⟩:=it;refine aN! (λi m O H=>∃Y ρ s,vN C! H1 Y1 H Y s/\rn! C! H Y O/\m=jV!-i/\i<=jV!/\ i2! C! H Y (FlD C!) (yU g hf! (eA! (fg d ρ s) (fb ρ' s')) (items.drop i) ρ s) (zhZ D)) ⟨jV!,Y1,ρ,s1,.refl dH!,if!,by rfl,g8!,by exact h1⟩ ?_;rintro i m O H ⟨Y2,ρ2,s2,ag,aZ,rfl,nu,h2⟩;by_cases bF:i<jV!
  ·right;rw[_bE bF,yU]at h2;split at h2
   ·rename_i hG;obtain⟨go,yl⟩:=((ok H Y2 s2 ag hG i).1 items[i] (_b bF));refine⟨go,λO' H'=>∃Y ρ s,vN C! H1 Y1 H' Y s/\rn! C! H' Y O'/\i2! C! H' Y (FlD C!) (yU g hf! (eA! (fg d ρ s) (fb ρ' s')) (items.drop (i+1)) ρ s) (zhZ D), λO' H' ⟨Y3,ρ3,s3,q1,q2,q3⟩=>⟨jV!-(i+1),by omega,Y3,ρ3,s3,q1,q2,rfl,bF,q3⟩,λx H' y=>?_⟩;obtain⟨Y3,aq,cz⟩:=yl x H' y;refine⟨Y3,ρ2,s2,items[i],aq.rep,aZ.mono aq,cz,de! (okR.bind (Dn:=FlD C!) (okR.rebase h2 aq)) (λO5 H5 ⟨Y5,s5,ρ5,bN,en5,h5⟩=>?_)⟩;refine⟨Y5,ρ5,s5,bN.rep,en5,h5.imp λfv H6 ⟨Y6,s6,fl,ck,cQ,q6⟩=>?_⟩;have fq := bb! (ag.trans aq) ck;cases fl with
    | nx ρ'=> cases fv with
     | nx O'=>exact⟨Y6,ρ',s6,fq,cQ,q6⟩ | _=>exact b5! cQ
    | ct ρ'=> cases fv with
     | ct O'=>exact⟨Y6,ρ',s6,fq,cQ,q6⟩ | _=>exact b5! cQ
    | bk ρ'=> cases fv with
     | bk O'=>exact okR.here (b:=nn! O') q6 ck.rep cQ | _=>exact b5! cQ
    | rt d=> cases fv with
     | rt v=>exact okR.here (Q:=zhZ D) q6 ck.rep cQ | _=>exact b5! cQ
   ·exact h2.elim
  ·left;have e:i=jV!:=by omega
   subst e;rw[List.drop_length,yU]at h2;split at h2
   ·rename_i hG;exact⟨(ok H Y2 s2 ag hG _).2 ak!,okR.here (b:=nn! O) h2 ag.rep aZ⟩
   ·exact h2.elim
end
end Dd
namespace Zz
def Sit(b:Bool)(h:Heap)(it l:Addr)(k:Nat):k!:=match b with
 | true=>h.IsListIter it l k | false=>h.IsTupleIter it l k
def Sco(b:Bool)(h:Heap)(l:Addr)(xs:cD!):k!:=match b with
 | true=>h.IsList l xs | false=>h.IsTuple l xs
theorem Sit.to(x:Sit b h it l k)(e:∀o,cJ! it->dC! it):Sit b h' it l k:=by cases b with
 | true=>obtain⟨o,ho,r⟩:=x;exact cy! (e _ ho) r | false=>obtain⟨o,ho,r⟩:=x;exact cy! (e _ ho) r
theorem Sco.to(x:Sco b h l xs)(e:∀o,cJ! l->dC! l):Sco b h' l xs:=by cases b with
 | true=>obtain⟨o,ho,r⟩:=x;exact cy! (e _ ho) r | false=>obtain⟨o,ho,r⟩:=x;exact cy! (e _ ho) r
theorem Sit.lt(x:Sit b h it l k):it<jg!:=by cases b with
 | true=>obtain⟨o,ho,r⟩:=x;exact _q ho | false=>obtain⟨o,ho,r⟩:=x;exact _q ho
theorem Sit.ob(x:Sit b h it l k):∃o,cJ! it/\∀v,h5!≠.cell v:=by cases b with
 | true=>obtain⟨o,ho,_,d⟩:=x;exact cy! ho (λv z=>by rw[d]at z;cases z) | false=>obtain⟨o,ho,_,d⟩:=x;exact cy! ho (λv z=>by rw[d]at z;cases z)
section
variable {P:Program}{w:World}{A:Around}{E:bX!}{s:Shared}
theorem zpx{it l:Addr}{k:Nat}{xs:cD!}{x:Value}{R:bX!}(h1:s.heap.IsTupleIter it l k)(h2:s.heap.IsTuple l xs)(e:G! xs k x) (q:∀h',h'.IsTupleIter it l (k+1)->Heap.SameBut it I! h'->R x {s with heap:=h'}):gn! P w A (sn! it) R E s:=by
 obtain⟨o,ho,hc,hd⟩:=id h1;obtain⟨ol,im,_,nl,io⟩:=h2;refine _a (_ag h1.typeIs _a3 (_av _a3 h1.typeIs F.entry_tuple_iterator_next ?_ (F.args_tuple_iterator_next_1 _)));show fJ! _ _ (field kl! 0 >>= _) _ _;refine _a (pZ! ho hd ?_);refine _a (pZ! ho hd (_a (_a4 im io ?_)));simp only[_T,e];exact _a (wpAny_setField ho hd (by simp) (_m (aB! x (_m (q _ ⟨_,Heap.get?_update_self _ ho (Obj.isFreed_of_fields (Obj.data_mapFields hd _)),bb! (Obj.cls_mapFields ..) hc,by rw[Obj.data_mapFields hd];rfl⟩ (_bG ..))))))
theorem zfL{it l:Addr} {k:Nat} {xs:cD!} {R:bX!} (hh:nw!) (h1:s.heap.IsTupleIter it l k) (h2:s.heap.IsTuple l xs) (e:xs[k]? = a!) (q:∀h' e,Heap.ExtBut it I! h'->(∃o,dC! e/\gk!=sq!)->E (u! e) {s with heap:=h'}):gn! P w A (sn! it) R E s:=by
 obtain⟨o,ho,hc,hd⟩:=id h1;obtain⟨ol,im,_,nl,io⟩:=h2;refine _a (_ag h1.typeIs _a3 (_av _a3 h1.typeIs F.entry_tuple_iterator_next ?_ (F.args_tuple_iterator_next_1 _)));show fJ! _ _ (field kl! 0 >>= _) _ _;refine _a (pZ! ho hd (_a (pZ! ho hd ?_)));refine _a (_a4 im io ?_);simp only[_T,e];refine _a (_cB (_a (wpAny_setField ho hd (by simp) (_a ?_))));refine _a (_aG ?_ (by size_fits));refine _a (wpAny_of_eq (by rfl) (_aG (_a (wpAny_handled ?_)) (by size_fits)));rw[hh];exact _a (_m (wpAny_throw (q _ _ (da! ((_bG ..).extBut.push _) _) (ca! g9!))))
theorem nx{b:Bool}{it l:Addr}{k:Nat}{xs:cD!}{x:Value}{R:bX!}(h1:Sit b I! it l k)(h2:hT! b l xs)(e:G! xs k x) (q:∀h',Sit b h' it l (k+1)->Heap.SameBut it I! h'->R x {s with heap:=h'}):gn! P w A (sn! it) R E s:=by cases b with
 | true=>exact wpAny_nextOf_list_item h1 h2 e q | false=>exact zpx h1 h2 e q
theorem zh9{b:Bool} {it l:Addr} {k:Nat} {xs:cD!} {R:bX!} (hh:nw!) (h1:Sit b I! it l k) (h2:hT! b l xs) (e:xs[k]? = a!) (q:∀h' e,Heap.ExtBut it I! h'->(∃o,dC! e/\gk!=sq!)->E (u! e) {s with heap:=h'}):gn! P w A (sn! it) R E s:=by cases b with
 | true=>exact wpAny_nextOf_list_end hh h1 h2 e q | false=>exact zfL hh h1 h2 e q
theorem zI(hs:Heap.SameBut a h h') (n:b≠a)(e:cJ! b):dC! b:=hs.extBut _ _ n e
theorem zn7{z TI TO i1 i2 l1 l2:Addr} {b1 b2:Bool} {k:Nat} {xs ys:cD!} {x y a b:Value} {Q:aL!->ey!} (D:ZipApart z TI TO i1 i2 l1 l2) (hz:IsZip I! z TI TO aa!) (bO:lx! I! TI (u! i1) (u! i2)) (bV:lx! I! TO a b) (h1:Sit b1 I! i1 l1 k) (h2:Sit b2 I! i2 l2 k) (c1:hT! b1 l1 xs) (c2:hT! b2 l2 ys) (ex:G! xs k x) (ey:G! ys k y) (q:∀h',IsZip h' z TI TO (rawInt ar!)->lx! h' TO x y->Sit b1 h' i1 l1 (k+1)->Sit b2 h' i2 l2 (k+1)->lx! h' ar! x y->h'.objs.size=dU!-> (∀c o,c≠z->c≠TO->c≠i1->c≠i2->dp! c->dC! c)->Q (b! fZ!) {s with heap:=h'}):gn! P w A (pf! (u! z)) Q E s:=by
 have hT:pi! (u! z) iA!:=ca! hz;unfold pyNext;refine _a (_db (_ag hT _cp (_av _cp hT F.entry_zip_next ?_ (F.args_zip_next_1 _))));show wpAny _ _ (field (u! z) 2 >>= _) _ _ _;refine _a (jL! hz ?_);refine _a (jL! hz ?_);refine _a (_a4 bO rfl ?_);refine _a ?_;unfold Builtin.SmallTypes.ownedTupleIsFree;refine _a (jL! hz (_m ?_));simp only[_v];refine _a (_cB ?_);refine _a (jL! hz ?_);refine _a (_an hz (by simp) λg1 z1 s1=>?_);replace z1 := z1;refine _a ?_;refine _a (_a (_dc ?_));refine _a (nx (h1.to (jI! s1 D.i1z e)) (c1.to (jI! s1 D.l1z e)) ex λg2 t2 s2=>_m ?_);have o2 := zI s2 D.TOi1 (zI s1 D.TOz bV);refine _a (_a4 o2 rfl ?_);refine _a (_cj o2 λg3 o3 s3=>?_);replace o3 := o3;refine _a (sG! ?_);refine _a (_a (_dc ?_));refine _a (nx (h2.to (jI! s3 D.TOi2.symm (zI s2 D.i12.symm (zI s1 D.i2z e)))) (c2.to (jI! s3 D.l2TO (zI s2 D.l2i1 (zI s1 D.l2z e)))) ey λg4 t4 s4=>_m ?_);have o4 := zI s4 D.TOi2 o3;refine _a (_a4 o4 rfl ?_);refine _a (_cj o4 λg5 o5 s5=>?_);replace o5:lx! g5 TO x y:=o5;refine _a (sG! (_m ?_));refine _a (_a4 o5 rfl ?_);refine _a (_cH ?_);have sz:g5.objs.size=ar!:=by rw[s5.1,s4.1,s3.1,s2.1,s1.1]
 have z5 := zI s5 D.TOz.symm (zI s4 D.i2z.symm (zI s3 D.TOz.symm (zI s2 D.i1z.symm z1)));have t5:Sit b1 g5 i1 l1 (k+1):=t2.to (jI! s5 D.TOi1.symm (zI s4 D.i12 (zI s3 D.TOi1.symm e)));have u5:Sit b2 g5 i2 l2 (k+1):=t4.to (jI! s5 D.TOi2.symm e);have zl := _q z5;refine _a ?_;have z6:IsZip (g5.push {cls:=dK!,data:=.seq #[x,y]}) z TI TO .ellipsis:=_g _ z5;refine _a (_an z6 (by simp) λg7 z7 s7=>?_);replace z7 := z7;refine _an z7 (by simp) λg8 z8 s8=>?_;replace z8 := z8;have up:∀c o,c≠z->g5.get? c=b! o->g8.get? c=b! o:=λc o n e=>zI s8 n (zI s7 n (_g _ e));have p8 := zI s8 (_ct zl) (zI s7 (_ct zl) g9!);have e8:g8.objs.size=g5.objs.size+1:=by rw[s8.1,s7.1,_aI]
 rw[sz]at z8 p8 e8;refine _m (aB! _ (_m ?_));show Q (a0! g5.objs.size) _;rw[sz];exact q g8 z8 (up _ _ D.TOz o5) (t5.to λo e=>up _ o D.i1z e) (u5.to λo e=>up _ o D.i2z e) p8 e8 λc o n1 n2 n3 n4 e=>up c o n1 ((λc o n1 n2 n3 n4 e=>zI s5 n2 (zI s4 n4 (zI s3 n2 (zI s2 n3 (zI s1 n1 e))))) c o n1 n2 n3 n4 e)
theorem zr5{z TI TO i1 i2 l1 l2:Addr}{b1 b2:Bool}{k:Nat}{xs ys:cD!}{a b:Value}{Q:aL!->ey!}(hh:nw!)(D:ZipApart z TI TO i1 i2 l1 l2) (hz:IsZip I! z TI TO aa!)(bO:lx! I! TI (u! i1) (u! i2))(bV:lx! I! TO a b) (h1:Sit b1 I! i1 l1 k)(h2:Sit b2 I! i2 l2 k)(c1:hT! b1 l1 xs)(c2:hT! b2 l2 ys)(en:xs[k]? = a!\/ys[k]? = a!) (q:∀h',(∀c o,c≠z->c≠TO->c≠i1->c≠i2->dp! c->dC! c)->Q a! {s with heap:=h'}):gn! P w A (pf! (u! z)) Q E s:=by
 have hT:pi! (u! z) iA!:=ca! hz;have fin:∀h' e,(∀c o,c≠z->c≠TO->c≠i1->c≠i2->dp! c->dC! c)->(∃o,dC! e/\gk!=sq!)-> gn! P w A (isInstance (u! e) sq! >>= λb=>aF! b (dY! a!) (throw (u! e))) Q E ({s with heap:=h'}):=λh' e hk he=>by
  obtain⟨o,ho,hc⟩:=he;exact _a (wpAny_isInstance (cy! ho hc) isSubtype_stop (_m (q _ hk)))
 refine _a (_db (_ag hT _cp (_av _cp hT F.entry_zip_next ?_ (F.args_zip_next_1 _))));show wpAny _ _ (field (u! z) 2 >>= _) _ _ _;refine _a (jL! hz ?_);refine _a (jL! hz (_a (_a4 bO rfl ?_)));refine _a ?_;refine _a (jL! hz (_m ?_));refine _a (_cB ?_);refine _a (jL! hz (_a (_an hz (by simp) λg1 z1 s1=>?_)));refine _a ?_;refine _a (_a (_dc ?_));cases ex:xs[k]? with
 | none=>
  refine _a (zh9 hh (h1.to (jI! s1 D.i1z e)) (c1.to (jI! s1 D.l1z e)) ex λg2 e s2 he=>?_);obtain⟨oe,dJ,fu⟩:=he;have z2 := s2 _ _ D.i1z.symm z1;exact _an z2 (by simp) λg3 _ s3=>fin g3 e (λc o n1 _ n3 _ t=>zI s3 n1 (s2 _ _ n3 (zI s1 n1 t))) ⟨oe,zI s3 (λt=>by subst t;rw[z2]at dJ;cases dJ;simp at fu) dJ,fu⟩ | some x=>
  refine _a (nx (h1.to (jI! s1 D.i1z e)) (c1.to (jI! s1 D.l1z e)) ex λg2 t2 s2=>_m ?_);have o2 := zI s2 D.TOi1 (zI s1 D.TOz bV);refine _a (_a4 o2 rfl ?_);refine _a (_cj o2 λg3 o3 s3=>(_a (sG! ?_)));refine _a (_a (_dc ?_));refine _a (zh9 hh (h2.to (jI! s3 D.TOi2.symm (zI s2 D.i12.symm (zI s1 D.i2z e)))) (c2.to (jI! s3 D.l2TO (zI s2 D.l2i1 (zI s1 D.l2z e)))) (by rcases en with t | t;rw[ex]at t;cases t;exact t) λg4 e s4 he=>?_);obtain⟨oe,dJ,fu⟩:=he;have z4:IsZip g4 z TI TO .ellipsis:=s4 _ _ D.i2z.symm (zI s3 D.TOz.symm (zI s2 D.i1z.symm z1));exact _an z4 (by simp) λg5 _ s5=>fin g5 e (λc o n1 n2 n3 n4 t=>zI s5 n1 (s4 _ _ n4 (zI s3 n2 (zI s2 n3 (zI s1 n1 t))))) ⟨oe,zI s5 (λt=>by subst t;rw[z4]at dJ;cases dJ;simp at fu) dJ,fu⟩
end
noncomputable def itO(b:Bool)(l:Addr):Obj:=match b with
 | true=>{cls:=av! "list_iterator",data:=eJ! #[eD!,bx! 0 0]} | false=>{cls:=av! "tuple_iterator",data:=eJ! #[eD!,bx! 0 0]}
theorem zby(e:eR! a (itO b l)):Sit b h a l 0:=by cases b with
 | true=>exact fH! _ e rfl | false=>exact fH! _ e rfl
theorem z63(b:Bool)(l:Addr):(itO b l).isFreed=t!:=by cases b<;>rfl
section
variable {P:Program}{w:World}{A:Around}{E:bX!}{s:Shared}
theorem z8S(h:hT! b l xs) (q:Q fZ! {s with heap:=ms! b l}):gn! P w A (pyIter eD!) Q E s:=by cases b with
 | true=>exact wpAny_pyIter_list h q | false=>exact wpAny_pyIter_tuple h q
end
noncomputable abbrev G1(b1:Bool)(h:Heap)(l1:Addr):Heap:=h.push (itO b1 l1)
noncomputable abbrev G2(b1 b2:Bool)(h:Heap)(l1 l2:Addr):Heap:=da! (G1 b1 h l1) (itO b2 l2)
noncomputable abbrev G3(b1 b2:Bool)(h:Heap)(l1 l2:Addr):Heap:=da! (G2 b1 b2 h l1 l2) ({cls:=dK!,data:=.seq #[u! jg!,u! (eg! (G1 b1 h l1))]})
noncomputable abbrev G4(b1 b2:Bool)(h:Heap)(l1 l2:Addr):Heap:=da! (G3 b1 b2 h l1 l2) ({cls:=dK!,data:=.seq #[aa!,aa!]})
noncomputable abbrev G5(b1 b2:Bool)(h:Heap)(l1 l2:Addr):Heap:=da! (G4 b1 b2 h l1 l2) ({cls:=av! iA!,data:=eJ! #[aa!,.bool t!,.bool t!,u! (eg! (G2 b1 b2 h l1 l2)),u! (eg! (G3 b1 b2 h l1 l2))]})
theorem zj5(b1 b2:Bool) (l1 l2:Addr) (xs ys:cD!): Meets (Builtin.«zip.__new__» (dN! [av! iA!,u! l1,u! l2])) (λ_ R s=>hT! b1 l1 xs/\hT! b2 l2 ys/\R (l3! (u! (eg! (G4 b1 b2 I! l1 l2)))) {s with heap:=G5 b1 b2 I! l1 l2}):= rj! (by
  obtain⟨hp,g,d,tk,os⟩:=s;obtain⟨c1,c2,h⟩:=h;have bP:=sub_zip;have q1 := c1;have q2:Sco b2 (Shared.heap (e0! (hp.push (itO b1 l1)) g d tk)) l2 ys:=c2.to λo e=>_g _ e;wp_walk using z8S q1,z8S q2;exact aB! _ h)
section
variable {P:Program}{w:World}{A:Around}{E:bX!}{s:Shared}
theorem zkX(c1:hT! b1 l1 xs) (c2:hT! b2 l2 ys) (h:∀h',IsZip h' (ar!+4) (ar!+2) (ar!+3) aa!->lx! h' (ar!+2) fZ! (u! dU!)-> lx! h' (ar!+3) aa! aa!->Sit b1 h' ar! l1 0->Sit b2 h' dU! l2 0->(∀c o,dp! c->dC! c)->Q (u! (ar!+4)) {s with heap:=h'}): gn! P w A (call (av! iA!) [u! l1,u! l2]) Q E s:=by
 refine callType_new F.called_zip (by decide) (F.typeCall_zip_2 _ _) (F.newCall_zip_2 _ _) (λobj=>F.args_object_init_3 obj _ _) F.entry_zip_new (zj5 b1 b2 l1 l2 xs ys) ⟨c1,c2,?_⟩;have z1:eg! (G1 b1 I! l1)=dU!:=_aI ..;have z2:eg! (G2 b1 b2 I! l1 l2)=ar!+2:=by rw[_aI,z1]
 have z3:eg! (G3 b1 b2 I! l1 l2)=ar!+3:=by rw[_aI,z2]
 have z4:eg! (G4 b1 b2 I! l1 l2)=ar!+4:=by rw[_aI,z3]
 have up:∀{h:Heap} {o:Obj} {c:Addr} {u:Obj},eR! c u->e5! (h.push o) c u:=λe=>_g _ e;have g5:e5! (G5 b1 b2 I! l1 l2) (eg! (G4 b1 b2 I! l1 l2)) _:=g9!;have g4:e5! (G5 b1 b2 I! l1 l2) (eg! (G3 b1 b2 I! l1 l2)) _:=up g9!;have g3:e5! (G5 b1 b2 I! l1 l2) (eg! (G2 b1 b2 I! l1 l2)) _:=up (up g9!);have g2:e5! (G5 b1 b2 I! l1 l2) (eg! (G1 b1 I! l1)) (itO b2 l2):=up (up (up (_w _ (z63 b2 l2))));rw[z2,z3,z4]at g5;rw[z1,z2]at g3;rw[z3]at g4;rw[z1]at g2;rw[z4];exact⟨ca! g5,h _ g5 g3 g4 (zby (up (up (up (up (_w _ (z63 b1 l1))))))) (zby g2) λc o e=>up (up (up (up (up e))))⟩
end
end Zz
namespace L2
open Zz
def Sq(b:Bool)(K:W.Frag)(H:Hp)(a:Addr)(xs:aM!):k!:=match b with
 | true=>SqL K H a xs | false=>eH! K a xs
section
variable {X:Cx}{ae:dh!}{O:St}{H:Hp}{s:Shared}{h':Heap}
theorem Inv.sq(I:L!)(h:Sq b X.K H a xs):∃af:List Value,xw xs af/\hT! b a fu!:=by cases b with
 | true=>obtain⟨af,r,p,_⟩:=I.list h;exact aN! af r p.isList | false=>obtain⟨af,r,p,_⟩:=lo! h;exact aN! af r p
theorem Inv.sq_inj(I:L!)(h:Sq b X.K H a xs)(h':Sq b X.K H a ys):xs=ys:=by cases b with
 | true=>exact I.list_inj h h' | false=>exact I.tuple_inj h h'
theorem Inv.turnedL{ch:bi!}(I:L!)(k:bD! (b∉ch->dp! b->dC! b))(f:∀b∈ch,zcM X ae H b):lI! ({s with heap:=h',toks:=t'}):=by
 have eJ:∀b u,cY! u->b∉ch:=λb u e z=>by rw[(f b z).1]at e;cases e
 refine I.step (cr! ⟨(f b hb).2.2.2.1,(f b hb).2.1,(f b hb).2.2.2.2.1,(f b hb).2.2.2.2.2⟩) (λb o _ _ hc e _=>k b o hc e) (λb o _ _ hc e _=>⟨o.slots,k b o hc e⟩) (λ_ _ _ _ n=>n) (λb o hc e=>⟨o,k b o hc e⟩) (λ_ _ e=>e) (λ_ _ _ e=>e) (λb ps e=>⟨#[],by rw[e];simp⟩) (λm hm=>?_) (λb u e=>?_) jj!
 ·obtain⟨o,es,ep,ho,r⟩:=hm;exact⟨o,es,ep,k _ o (λz=>(f _ z).2.1 rfl) ho,r⟩
 ·refine (nZ! b u e).stay (λc v hc q=>k c v ?_ q) (λ_ q=>q) λ_ _ q=>q;rcases hc with z | z;·rw[z];exact eJ b u e
  ·exact eJ c _ z
end
noncomputable def Itz(K:W.Frag)(b1 b2:Bool)(l1 l2:Addr):It:= ⟨λi H=>∃xs ys x y,Sq b1 K H l1 xs/\Sq b2 K H l2 ys/\am! xs x/\am! ys y, λi H v H'=>∃T x y,H T=a!/\v=u! T/\H'=hS! T (n! [x,y])/\(∀xs,Sq b1 K H l1 xs->am! xs x)/\∀ys,Sq b2 K H l2 ys->am! ys y, λi H=>∃xs ys,Sq b1 K H l1 xs/\Sq b2 K H l2 ys/\(w!<=i\/c9!<=i)⟩
theorem zkS{K:W.Frag} {z TI TO i1 i2 l1 l2:Addr}(D:ZipApart z TI TO i1 i2 l1 l2): zkf P w K (iV! bv tp) (Itz K b1 b2 l1 l2) [z,TI,TO,i1,i2] z (λi h=>IsZip h z TI TO aa!/\lx! h TI (u! i1) (u! i2)/\(∃a b,lx! h TO a b)/\Sit b1 h i1 l1 i/\Sit b2 h i2 l2 i) where
 mem:=by simp
 obj:=λi h ⟨hz,bO,⟨a,b,bV⟩,h1,h2⟩ c hc=>by
  rcases (by simpa using hc) with rfl | rfl | rfl | rfl | rfl;·exact bM! hz (λv e=>by simp at e)
  ·exact bM! bO (λv e=>by simp at e)
  ·exact bM! bV (λv e=>by simp at e)
  ·exact h1.ob
  ·exact h2.ob
 keep:=λi h h' ⟨hz,bO,⟨a,b,bV⟩,h1,h2⟩ k=>⟨k z (by simp) _ hz,k TI (by simp) _ bO,⟨a,b,k TO (by simp) _ bV⟩,h1.to λo e=>k i1 (by simp) o e,h2.to λo e=>k i2 (by simp) o e⟩;item:=by
  intro X hP hw hK hc i ae s O H E I hf ⟨hz,bO,⟨a,b,bV⟩,h1,h2⟩ ⟨xs,ys,x,y,qx,qy,ex,ey⟩;subst hP hw hK;obtain⟨ix,rx,cx⟩:=I.sq qx;obtain⟨iy,ry,cy⟩:=I.sq qy;obtain⟨u,hu,ru⟩:=rx.get ex;obtain⟨v,hv,rv⟩:=ry.get ey;refine zn7 D hz bO bV h1 h2 cx cy (by simpa using hu) (by simpa using hv) λg a1 a2 a3 a4 a5 a6 hk=>aB! _ ?_;have I1 := I.turnedL (t':=s.toks) (λc o n e=>hk c o (λt=>n (by simp[t])) (λt=>n (by simp[t])) (λt=>n (by simp[t])) (λt=>n (by simp[t])) e) λc hc=>hf c ((λc hc=>by rcases (by simpa using hc) with rfl | rfl | rfl | rfl<;>simp:∀c∈[z,TO,i1,i2],c∈[z,TI,TO,i1,i2]) c hc);refine wpAny_letOwnedTupleGo_zip a1 λg2 z2 s2=>?_;obtain⟨f0,f1,f2,f3,f4,f5⟩:=hf z (by simp);have new := I.fpOk ak! (mt! _);have ne:∀{c:Addr}{o:Obj},dp! c->c≠ar!:=λe=>_D c8!;refine⟨fZ!,hS! ar! (n! [x,y]),(I1.turned (t':=s.toks) (λc o n e=>zI s2 n e) f0 f1 f3 f4 f5).track new ⟨?_,[u,v],eI! ru (eI! rv cB!),⟨_,(zI s2 (ne hz).symm a5),rfl,rfl,_,rfl⟩⟩,rfl,⟨_,x,y,new.1,rfl,rfl,λzs qz=>?_,λzs qz=>?_⟩,⟨z2,?_,bM! _ (zI s2 D.TOz a2),a3.to (jI! s2 D.i1z e),a4.to (jI! s2 D.i2z e)⟩,λc hc=>?_⟩;·show 2<=aS!;decide
  ·rw[I.sq_inj qz qx];exact ex
  ·rw[I.sq_inj qz qy];exact ey
  ·exact zI s2 D.TIz (hk TI _ D.TIz D.TITO D.TIi1 D.TIi2 bO)
  ·rw[zM (by
    rcases (by simpa using hc) with rfl | rfl | rfl | rfl | rfl;·exact ne hz
    ·exact ne bO
    ·exact ne bV
    ·exact _D h1.lt
    ·exact _D h2.lt)];exact (hf c hc).1
 done:=by
  intro X hP hw hK hc i ae s O H E I hf ⟨hz,bO,⟨a,b,bV⟩,h1,h2⟩ ⟨xs,ys,qx,qy,hl⟩;subst hP hw hK;obtain⟨ix,rx,cx⟩:=I.sq qx;obtain⟨iy,ry,cy⟩:=I.sq qy;have lx:=rx.length;have ly:=ry.length;refine zr5 hl! D hz bO bV h1 h2 cx cy ?_ λg hk=>fc! (I.turnedL (ch:=[z,TO,i1,i2]) (λc o n e=>hk c o (λt=>n (by simp[t])) (λt=>n (by simp[t])) (λt=>n (by simp[t])) (λt=>n (by simp[t])) e) λc hc=>hf c (by rcases (by simpa using hc) with rfl | rfl | rfl | rfl<;>simp))
  ·rcases hl with hl | hl;·exact z! (by simp;lia)
   ·exact T! (by simp;lia)
 self:=λ_ _ _ _ _ st h=>wpAny_pyIter_zip st.1 h
theorem zrn{bv:aD!}{kt:Nat}{tp:Pos} {p pos:Pos}(hg:it! iA!)(hm:dM! iA!)(ha:PA X [a,b] ta)(hs:y! (au! [a,b]=d1! a::au! [b]))(au:ea! [b] (·.1)): PI X (iV! bv tp) (do! iA! p [a,b]) (λO H R=>ta O H λvs H1=>∃l1 l2 b1 b2,vs=[u! l1,u! l2]/\(∃xs,Sq b1 X.K H1 l1 xs)/\(∃ys,Sq b2 X.K H1 l2 ys)/\R (Itz X.K b1 b2 l1 l2) H1):=by
 refine λae s O H R I h=>_as (z2b I hg hm (by rfl) (_ab (thn (ha pos ae s O H _ I h) λus s1 ⟨vs,H1,I1,r1,q1⟩=>?_) hs au) (by decide) (by decide));obtain⟨l1,l2,b1,b2,rfl,⟨xs,qx⟩,⟨ys,qy⟩,q⟩:=q1;cases r1 with | cons r1 r2=> cases r2 with | cons r2 r3=>
   cases r3;cases r1;cases r2;obtain⟨ix,rx,cx⟩:=I1.sq qx;obtain⟨iy,ry,cy⟩:=I1.sq qy;have nv:l1<iH!:=by cases b1 with
    | true=>obtain⟨o,e,_⟩:=cx;exact c8! | false=>obtain⟨o,e,_⟩:=cx;exact c8!
   refine zkX cx cy λg hz bO bV h1 h2 hk=>(wpAny_pyIter_zip hz ?_);refine⟨_,_,_,_,H1,rfl,n5! hk,zkS (by
    have e1:∀k:Nat,l1≠iH!+k:=λk=>_D (_j nv (_dm _ _));have e2:∀k:Nat,l2≠iH!+k:=λk=>_D (_j (by cases b2 with
    | true=>obtain⟨o,e,_⟩:=cy;exact c8! | false=>obtain⟨o,e,_⟩:=cy;exact c8!) (_dm _ _));have nk:∀(m j k:Nat),j≠k->m+j≠m+k:=λm j k h z=>h (Nat.add_left_cancel z);exact⟨nk _ 2 4 (by decide),nk _ 3 4 (by decide),nk _ 0 4 (by decide),nk _ 1 4 (by decide),nk _ 2 3 (by decide),nk _ 2 0 (by decide),nk _ 2 1 (by decide),nk _ 3 0 (by decide),nk _ 3 1 (by decide),nk _ 0 1 (by decide),e1 4,e1 3,e1 0,e1 1,e2 4,e2 3,e2 0,e2 1⟩),⟨hz,bO,bM! _ bV,h1,h2⟩,λc hc=>?_,q⟩;have cA:iH!<=c:=by rcases (by simpa using hc) with rfl | rfl | rfl | rfl | rfl<;>first | exact ak! | exact _dm _ _
   exact rT! cA cA
end L2
namespace Zz
section
variable {P:Program}{w:World}{A:Around}{E:bX!}{s:Shared}
theorem zaO(hh:nw!)(h:hT! b l af) (k:∀s2:Shared,s2={s with heap:=ms! b l}->∀St:Nat->Heap->Prop,Walks P w A ar! [ar!,l] [ar!] af.size (λi v=>am! af v) St->St 0 s2.heap-> (∀c∈[ar!,l],c<s2.heap.objs.size)->(∀h':Heap,(∀c o,c∉[ar!]->s2.heap.get? c=b! o->dC! c)->∀c o,dp! c->dC! c)->Q fZ! s2):gn! P w A (pyIter eD!) Q E s:=by
 have lt:l<ar!:=by cases b with
  | true=>obtain⟨o,e,_⟩:=h;exact c8! | false=>obtain⟨o,e,_⟩:=h;exact c8!
 have ne := _D lt;have bd:∀c∈[ar!,l],c<eg! (ms! b l):=λc hc=>by
  rw[_aI];rcases (by simpa using hc) with rfl | rfl;·exact _cb _
  ·exact _aW lt
 have bx:∀h':Heap,(∀c o,c∉[ar!]->e5! (ms! b l) c o->dC! c)->∀c o,dp! c->dC! c:=λh' hk c o e=> hk c o (λz=>kS! ((show c=ar! from by simpa using z) ▸ c8!) _) (_g _ e);refine z8S h ?_;have g:e5! (ms! b l) ar! (itO b l):=_w _ (z63 b l);cases b with
 | true=>exact k _ rfl _ (Walks.list hh _ l ne af) ⟨zby g,Sco.to h λo e=>_g _ e⟩ bd bx | false=>exact k _ rfl _ (Walks.tuple hh _ l ne af) ⟨zby g,Sco.to h λo e=>_g _ e⟩ bd bx
end
end Zz
namespace L2
open Zz
noncomputable def maxL:h!->Int
 | []=>0 | x::xs=>kR! max
noncomputable def minL:h!->Int
 | []=>0 | x::xs=>kR! min
theorem jL:∀(xs:List Int)(x:Int),x<=kR! max/\(∀y∈xs,y<=kR! max)/\(kR! max=x\/kR! max∈xs)
 | [],x=>⟨_c0 _,by simp,c4!⟩ | y::ys,x=>by
  obtain⟨h1,h2,h3⟩:=jL ys (max x y);refine⟨by simp only[_a8];lia,λz hz=>?_,?_⟩
  ·simp only[_a8];rcases dE! hz with rfl | hz;·lia
   ·exact h2 z hz
  ·simp only[_a8];rcases h3 with h3 | h3
   ·rw[h3];rcases Int.le_total x y with h | h;·exact T! (by rw[Int.max_eq_right h];simp)
    ·exact z! (Int.max_eq_left h)
   ·exact T! (_H _ h3)
theorem jM:∀(xs:List Int)(x:Int),kR! min<=x/\(∀y∈xs,kR! min<=y)/\(kR! min=x\/kR! min∈xs)
 | [],x=>⟨_c0 _,by simp,c4!⟩ | y::ys,x=>by
  obtain⟨h1,h2,h3⟩:=jM ys (min x y);refine⟨by simp only[_a8];lia,λz hz=>?_,?_⟩
  ·simp only[_a8];rcases dE! hz with rfl | hz;·lia
   ·exact h2 z hz
  ·simp only[_a8];rcases h3 with h3 | h3
   ·rw[h3];rcases Int.le_total x y with h | h;·exact z! (Int.min_eq_left h)
    ·exact T! (by rw[Int.min_eq_right h];simp)
   ·exact T! (_H _ h3)
theorem maxL_ge: ∀y∈xs,y<=jW! xs:=by cases xs with
 | nil=>decide | cons x xs=>intro y hy;rcases dE! hy with rfl | hy;exact (jL xs y).1;exact (jL xs x).2.1 y hy
theorem maxL_mem(h:a1! xs):jW! xs∈xs:=by cases xs with
 | nil=>exact gt! h | cons x xs=>rcases (jL xs x).2.2 with e | e;exact (show kR! max∈x::xs by rw[e];simp);exact _H _ e
theorem minL_le: ∀y∈xs,jX! xs<=y:=by cases xs with
 | nil=>decide | cons x xs=>intro y hy;rcases dE! hy with rfl | hy;exact (jM xs y).1;exact (jM xs x).2.1 y hy
theorem minL_mem(h:a1! xs):jX! xs∈xs:=by cases xs with
 | nil=>exact gt! h | cons x xs=>rcases (jM xs x).2.2 with e | e;exact (show kR! min∈x::xs by rw[e];simp);exact _H _ e
section
variable {X:Cx}
theorem z7T{ns:h!} (r:xw hQ! af) (e:am! fu! v):∃t,v=bS! (iU! i)/\i<fA!:=by
 have e':am! af v:=by simpa using e
 have hl:=r.length;have hi:i<fA!:=by
  have:=cV! e';simp at hl;lia
 obtain⟨u,hu,ru⟩:=r.get (i:=i) (x:=V.int ns[i]) (by simp[hi]);rw[e']at hu;cases hu;obtain⟨t,rfl⟩:=ru;exact⟨t,by simp[hi],hi⟩
theorem getD_in{ns:h!} (h:i<fA!):iU! i∈ns:=by
 rw[List.getD,_b h];exact _O _
theorem ziX(hc:bW!):lX! X nH! (∃b p ns,xs=[cn!]/\Sq b X.K H p hQ!/\a1! ns/\Q (c! nC!) H):=by
 intro ae s O H xs us Q I r h;obtain⟨b,p,ns,rfl,hq,dj,q⟩:=h;obtain⟨u,rfl,ru⟩:=k2!;cases ru;obtain⟨af,rv,co⟩:=I.sq hq;have hl:jU!=fA!:=by have:=rv.length;simp at this;lia
 refine call_max_walk (sw! hl! co ?_);subst e2;refine⟨_,_,_,_,_,_,_,rfl,W,st,bd,by simpa[hl] using (_bH.mpr dj),CmpOf.ints_gt (λi=>iU! i) (λi v e=>let ⟨t,e1,_⟩:=z7T rv e;aw! t e1),λv h' tk e hk=>?_⟩;obtain⟨t,e1,lt⟩:=z7T rv e;obtain⟨h1,h2⟩:=argBest_gt (λi=>iU! i) (iI!-1);rw[e1,(show iU! (argBest (λi j=>a5! (iU! i > iU! j)) (iI!-1))=nC! from by
  refine Int.le_antisymm (oh! _ (getD_in lt)) ?_
  ·obtain⟨j,hj,ej⟩:=gM! (kG! dj);have:=h2 j (by simp[hl];lia);simp only[List.getD,_b hj,ej]at this;exact this)];exact⟨c! nC!,H,mc! (bx h' hk),cf! t,q⟩
theorem zgU(hc:bW!):lX! X nI! (∃b p ns,xs=[cn!]/\Sq b X.K H p hQ!/\a1! ns/\Q (c! (jX! ns)) H):=by
 intro ae s O H xs us Q I r h;obtain⟨b,p,ns,rfl,hq,dj,q⟩:=h;obtain⟨u,rfl,ru⟩:=k2!;cases ru;obtain⟨af,rv,co⟩:=I.sq hq;have hl:jU!=fA!:=by have:=rv.length;simp at this;lia
 refine call_min_walk (sw! hl! co ?_);subst e2;refine⟨_,_,_,_,_,_,_,rfl,W,st,bd,by simpa[hl] using (_bH.mpr dj),CmpOf.ints_lt (λi=>iU! i) (λi v e=>let ⟨t,e1,_⟩:=z7T rv e;aw! t e1),λv h' tk e hk=>?_⟩;obtain⟨t,e1,lt⟩:=z7T rv e;obtain⟨h1,h2⟩:=argBest_lt (λi=>iU! i) (iI!-1);rw[e1,(show iU! (argBest (λi j=>a5! (iU! i<iU! j)) (iI!-1))=jX! ns from by
  refine Int.le_antisymm ?_ (minL_le _ (getD_in lt))
  ·obtain⟨j,hj,ej⟩:=gM! (rJ! dj);have:=h2 j (by simp[hl];lia);simp only[List.getD,_b hj,ej]at this;exact this)];exact⟨c! (jX! ns),H,mc! (bx h' hk),cf! t,q⟩
theorem all_range{bs:ee! cc!}:(iC! qx!).all (λi=>bs.getD i t!)=bs.all id:=by
 rw[Bool.eq_iff_iff];simp only[_P,_aL,id];constructor
 ·intro h x hx;obtain⟨j,hj,ej⟩:=p3!;simpa[hj,ej] using (h j hj)
 ·intro h i hi;simp only[List.getD,_b hi,_aE];exact h _ (_O _)
theorem zhK(hc:bW!):lX! X jd! (∃(b:Bool) (p:Addr) (bs:List Bool),xs=[cn!]/\Sq b X.K H p (bs.map V.bl)/\Q (.bl (bs.all id)) H):=by
 intro ae s O H xs us Q I r h;obtain⟨b,p,bs,rfl,hq,q⟩:=h;obtain⟨u,rfl,ru⟩:=k2!;cases ru;obtain⟨af,rv,co⟩:=I.sq hq;have hl:jU!=qx!:=by have:=rv.length;simp at this;lia
 refine call_all_walk (sw! hl! co ?_);subst e2;refine⟨_,_,_,_,_,_,λi=>bs.getD i t!,rfl,W,st,λi v s3 Q3 E3 e q3=>?_,λh' tk hk=>?_⟩
 ·have e':am! af v:=by simpa using e
  have hi:i<qx!:=by have:=cV! e';lia
  obtain⟨u,hu,ru⟩:=rv.get (i:=i) (x:=V.bl bs[i]) (by simp[hi]);rw[e']at hu;cases hu;cases ru;have q3:Q3 (bs.getD i t!) s3:=q3;rw[(show bs.getD i t!=bs[i] from by simp[List.getD,hi])]at q3;exact _aV q3
 ·rw[(show iI!=qx! from by exact hl ..),all_range];exact bo! (.bl (bs.all id)) H (mc! (bx h' hk)) q
end
end L2
namespace L2
theorem zdQ: lX! X gI! (∃x t T b,xs=[x,.ty T]/\zcZ X.K H x t/\m1! X.K t kk!=b! b/\Q hD! H):=by
 intro ae s O H xs us Q I r h;obtain⟨x,t,T,b,rfl,ht,hk,q⟩:=h;obtain⟨u,v,rfl,ru,rv⟩:=vals2 r;cases rv;exact zhw I ru ht hk λtk=>bo! hD! H im! q
end L2
namespace Dd
open L2
noncomputable def tyD:D->bn! String
 | .non=>b! "NoneType" | .bl _=>b! fS! | .int _=>b! et! | .str _=>b! gj! | .tup _=>b! dr! | .lst _=>b! ef! | .loc _=>b! ef! | .dct=>b! nG! | _=>none
noncomputable def isT(T t:String):Bool:=t==T||(T==et!&&t==fS!)
noncomputable def gIs(T:String):D->bm!:=λd s=>match tyD d with | some t=>aV! (isT T t) | none=>.no
theorem ze3{K:W.Frag} (h:t∈["NoneType",fS!,et!,gj!,dr!,ef!,nG!])(T:String)(hT:T∈[et!,fS!,gj!,dr!,ef!]):m1! K (av! t) kk!=b! (isT T t):=by rcases (by simpa using h) with rfl | rfl | rfl | rfl | rfl | rfl | rfl<;>rcases (by simpa using hT) with rfl | rfl | rfl | rfl | rfl<;>kernel_rfl
theorem zm6(r:cZ!)(dn:fN!)(e:tyD d=b! t):zcZ nk! H v (av! t)/\t∈["NoneType",fS!,et!,gj!,dr!,ef!,nG!]:=by cases d with
 | non=>subst dn;cases e;exact⟨an!,by decide⟩ | bl b=>cases z0B dn;cases e;exact⟨hD!,by decide⟩ | int b=>cases yx dn;cases e;exact⟨e2!,by decide⟩ | str b=>cases z0N dn;cases e;exact⟨aq! b,by decide⟩ | tup b=>
  cases e;obtain⟨a,vs,rfl,h1,_⟩:=dn;exact⟨n! h1,by decide⟩ | lst b=>
  cases e;obtain⟨a,o,vs,rfl,h1,_⟩:=dn;exact⟨.frz h1,by decide⟩ | loc l=>
  cases e;obtain⟨a,rfl,h1,vs,h2⟩:=dn;exact⟨W! h2,by decide⟩ | dct=>
  cases e;obtain⟨a,rfl,h1⟩:=dn;exact⟨.dK h1,by decide⟩ | _=>cases e
section
variable {X:Cx}{E:XK}{e a b c tg:Expr}{es:aD!}{pos:Pos}{CX:CXT}
noncomputable def eIs(T:String)(f:FE):FE:=eO! (eb! (gIs T d s1))
theorem z9Y{p p2:Pos} (hT:T∈[et!,fS!,gj!,dr!,ef!])(hv:kO! tn kk!)(hg:it! gI!)(hm:dM! gI!)(cL:it! tn)(cn:dM! tn)(he:fq! f) (hn:j1! (lQ! tn))(hd:cm! (tn==cP!)) (hs:y! (au! [e,fI! tn]=dW!::au! [fI! tn]))(au:ea! [fI! tn] (·.1)):X! (do! gI! p [e,fI! tn]) (eIs T f):= yq (z3x zdQ hg hm (by decide +kernel) (va he (va (za9 cL cn hv (show wV (.ty T) kk! from rfl) hn hd) z1b) hs) (by decide) (by decide) hs au) λO H Q ⟨Y,ρ,s,r,en,h⟩=>by
  refine yS (k:=kF! (gIs T d s1)) r en h _ λv H1 Y1 s1 d r1 av dn stp h1=>?_;unfold gIs at h1;split at h1
  ·rename_i t et;obtain⟨q1,q2⟩:=zm6 r1 dn et;exact⟨v,av! t,T,isT T t,rfl,q1,ze3 q2 T hT,oe! h1 r1 wS⟩
  ·exact h1.elim
noncomputable def zlv:D!->bm!
 | [.int i],s=>x! (al! (i<0) (-i) i) | _,_=>.no
theorem zuD:∃r,jy! X "abs" r/\z2v X E r zlv:=j4! zk5 (by
 unfold zlv at h;split at h
 ·rename_i i;obtain⟨v,rfl,dn⟩:=lc!;cases yx dn;exact aB! i (eW! yK)
 ·exact h.elim)
noncomputable def intsOf:D!->bn! h!
 | []=>b! [] | .int i::r=>(qy! r).map (i::·) | _=>none
noncomputable def bools:D!->bn! (ee! cc!)
 | []=>b! [] | .bl i::r=>(oi! r).map (i::·) | _=>none
theorem z0M:∀{xs:List D}{ns:List Int},qy! xs=b! ns->xs=ie!
 | [],ns,h=>by cases h;rfl | .int i::r,ns,h=>by
  obtain⟨ms,h1,rfl⟩:=qz! h;rw[z0M h1];rfl
theorem uH(ns:h!):qy! ie!=b! ns:=by induction ns with
 | nil=>rfl | cons n ns ih=>show (qy! _).map (n::·)=_;rw[ih];rfl
theorem z5Q:∀{xs:List D}{ns:List Bool},oi! xs=b! ns->xs=pj! D.bl
 | [],ns,h=>by cases h;rfl | .bl i::r,ns,h=>by
  obtain⟨ms,h1,rfl⟩:=qz! h;rw[z5Q h1];rfl
theorem zbk(ns:ee! cc!):oi! (pj! D.bl)=b! ns:=by induction ns with
 | nil=>rfl | cons n ns ih=>show (oi! _).map (n::·)=_;rw[ih];rfl
theorem z0O: ∀{ns:List Int}{vs:List V},oM! ie!->vs=hQ!
 | [],vs,h=>by exact h | n::ns,vs,h=>by
  obtain⟨v,r,rfl,h1,h2⟩:=h;cases yx h1;rw[z0O h2];rfl
theorem z5K: ∀{ns:List Bool}{vs:List V},oM! (pj! D.bl)->vs=pj! V.bl
 | [],vs,h=>by exact h | n::ns,vs,h=>by
  obtain⟨v,r,rfl,h1,h2⟩:=h;cases z0B h1;rw[z5K h2];rfl
noncomputable def um:D!->bm!
 | [d],s=>match A! (zW s d) intsOf with | some (n::ns)=>x! (jW! (n::ns)) | _=>.no
 | _,_=>.no
noncomputable def z87:D!->bm!
 | [d],s=>match A! (zW s d) intsOf with | some (n::ns)=>x! (jX! (n::ns)) | _=>.no
 | _,_=>.no
noncomputable def zgs:D!->bm!
 | [d],s=>match A! (zW s d) bools with | some ns=>aV! (ns.all id) | none=>.no
 | _,_=>.no
theorem zew{K:W.Frag} {a:Addr} (h:SqL K H a vs\/eH! K a vs):∃b,Sq b K H a vs:=h.elim (λh=>aw! d! h) λh=>aw! t! h
theorem z4B(hc:bW!):∃r,jy! X nH! r/\z2v X E r um:=j4! (ziX hc) (by
 unfold um at h;split at h
 ·split at h
  ·rename_i n ns e;obtain⟨xs,e1,e2⟩:=_bg.mp e;have:=z0M e2;subst this;obtain⟨v,rfl,dn⟩:=lc!;obtain⟨a,ws,rfl,q1,q2⟩:=jK r e1 dn;cases z0O q2;obtain⟨b,q⟩:=zew q1;exact⟨b,a,n::ns,rfl,q,by simp,eW! yK⟩
  ·exact h.elim
 ·exact h.elim)
theorem zlG(hc:bW!):∃r,jy! X nI! r/\z2v X E r z87:=j4! (zgU hc) (by
 unfold z87 at h;split at h
 ·split at h
  ·rename_i n ns e;obtain⟨xs,e1,e2⟩:=_bg.mp e;have:=z0M e2;subst this;obtain⟨v,rfl,dn⟩:=lc!;obtain⟨a,ws,rfl,q1,q2⟩:=jK r e1 dn;cases z0O q2;obtain⟨b,q⟩:=zew q1;exact⟨b,a,n::ns,rfl,q,by simp,eW! yK⟩
  ·exact h.elim
 ·exact h.elim)
theorem zko(hc:bW!):∃r,jy! X jd! r/\z2v X E r zgs:=j4! (zhK hc) (by
 unfold zgs at h;split at h
 ·split at h
  ·rename_i ns e;obtain⟨xs,e1,e2⟩:=_bg.mp e;have:=z5Q e2;subst this;obtain⟨v,rfl,dn⟩:=lc!;obtain⟨a,ws,rfl,q1,q2⟩:=jK r e1 dn;cases z5K q2;obtain⟨b,q⟩:=zew q1;exact⟨b,a,ns,rfl,q,eW! wS⟩
  ·exact h.elim
 ·exact h.elim)
noncomputable def z4I:D!->D!->D!
 | x::xs,y::ys=>n! [x,y]::z4I xs ys | _,_=>[]
theorem z7s:∀(xs ys:List D),v! (z4I xs ys)=min w! c9!
 | [],ys=>by rfl | x::xs,[]=>by rfl | x::xs,y::ys=>by simp only[z4I,_i,z7s xs ys];omega
theorem zgA:∀{xs ys:List D}{i:Nat}{d:D},am! (z4I xs ys) d->∃x y,am! xs x/\am! ys y/\d=n! [x,y]
 | [],ys,i,d,h=>by cases h | x::xs,[],i,d,h=>by cases h | x::xs,y::ys,0,d,h=>by simp[z4I]at h;exact⟨x,y,by rfl,by rfl,h.symm⟩ | x::xs,y::ys,i+1,d,h=>by
  simp only[z4I,_d]at h;obtain⟨a,b,h1,h2,h3⟩:=zgA h;exact⟨a,b,by exact h1,by exact h2,h3⟩
noncomputable def z94(s:Sto):D->bn! (D!×gr! Nat D!)
 | .tup xs=>b! (xs,[]) | .lst xs=>b! (xs,[]) | .loc l=>(s[l]?).map λxs=>(xs,[(l,xs)]) | _=>none
theorem zdz(r:cZ!)(h:z94 s d=b! (xs,g))(dn:fN!):okG g [] s/\∃(b:Bool)(a:Addr),v=ag!/\ ∀H2 Y2 s2,vN mg H Y H2 Y2 s2->okG g [] s2->∃ws,Sq b nk! H2 a ws/\gw! H2 Y2 xs ws:=by cases d with
 | tup ys=>
  cases h;obtain⟨a,vs,rfl,q1,q2⟩:=kU (K:=mg.K) dn;refine bo! (by intro p hp;cases hp) t! a (λH2 Y2 s2 stp _=>?_);obtain⟨a',ws,e,q3,q4⟩:=kU (rH! stp);cases e;exact aN! ws q3 q4 | lst ys=>
  cases h;obtain⟨a,vs,rfl,q1,q2⟩:=yu r rfl dn;refine bo! (by intro p hp;cases hp) d! a (λH2 Y2 s2 stp _=>?_);obtain⟨a',ws,e,q3,q4⟩:=yu dH! rfl (rH! stp);cases e;exact⟨ws,z! q3,q4⟩ | loc l=>
  simp only[z94,_aj]at h;obtain⟨ys,ey,e2⟩:=h;cases e2;obtain⟨a,vs,rfl,q1,q2⟩:=yu (d:=dP!) r ey dn;refine bo! (bs! (by
   have:p=(l,xs):=by simpa using hp
   subst this;exact ey)) d! a (λH2 Y2 s2 stp hg=>?_);obtain⟨a',ws,e,q3,q4⟩:=yu (d:=dP!) stp.rep (hg (l,xs) (by simp)) (rH! stp);cases e;exact⟨ws,z! q3,q4⟩ | _=>cases h
noncomputable def z54(f:FA):FI:=b7! ay! (iJ! (match ds with
 | [x,y]=>match z94 s1 x,z94 s1 y with
  | some p,some q=>P! (z4I p.1 q.1,p.2++q.2) | _,_=>.no
 | _=>.no))
theorem z82{p tp:Pos}{bv:aD!}{kt:Nat} (hg:it! iA!)(hm:dM! iA!)(ha:RA X E [a,b] f)(hs:y! (au! [a,b]=d1! a::au! [b]))(au:ea! [b] (·.1)): RI X E (iV! bv tp) (do! iA! p [a,b]) (z54 f):= z8G (zrn hg hm ha hs au) λO H Q ⟨Y,ρ,s,r,en,h⟩=>by
  refine⟨Y,ρ,s,r,en,de! h (λvs H1 ⟨Y1,s1,ds,stp,dn,h1⟩=>?_)⟩;split at h1
  ·split at h1
   ·rename_i p q ex ey;obtain⟨v,v',rfl,d1,d2⟩:=zaW dn;obtain⟨ip,b1,a1,rfl,k1⟩:=zdz dH! ex d1;obtain⟨nw,b2,a2,rfl,k2⟩:=zdz dH! ey d2;obtain⟨w1,q1,_⟩:=k1 H1 Y1 s1 (.refl dH!) ip;obtain⟨w2,q2,_⟩:=k2 H1 Y1 s1 (.refl dH!) nw;refine⟨a1,a2,b1,b2,rfl,aw! w1 q1,aw! w2 q2,oI! (λH2 Y2 s2 ag og i=>?_)⟩;have h3 := bs! (og p (_ba _ hp));have h4 := bs! (og p (_N _ hp));refine⟨hI! ?_,λhl=>?_⟩
    ·obtain⟨x,y,e1,e2,rfl⟩:=zgA hd;obtain⟨w1,q1,n1⟩:=k1 H2 Y2 s2 ag h3;obtain⟨w2,q2,n2⟩:=k2 H2 Y2 s2 ag h4;obtain⟨u1,g1,m1⟩:=n1.get e1;obtain⟨u2,g2,m2⟩:=n2.get e2;refine⟨⟨w1,w2,u1,u2,q1,q2,g1,g2⟩,λz H' ⟨T,p,q,hT,ez,eH,hp,hq⟩=>?_⟩;subst ez eH;have e3:=hp w1 q1;have e4:=hq w2 q2;rw[g1]at e3;rw[g2]at e4;cases e3;cases e4;have cC:=vN.lay (o:=n! [u1,u2]) ag.rep hT (by intro _ z;cases z);exact⟨Y2,cC,gW! T [u1,u2] yB ((pk! m1 (yp.one m2)).mono cC)⟩
    ·obtain⟨w1,q1,n1⟩:=k1 H2 Y2 s2 ag h3;obtain⟨w2,q2,n2⟩:=k2 H2 Y2 s2 ag h4;refine⟨w1,w2,q1,q2,?_⟩;rw[n1.length,n2.length];simp only[z7s]at hl;omega
   ·exact h1.elim
  ·exact h1.elim
end
noncomputable def wU(mp:eY!)(ρ:Ev):Ev:=mp.map λo=>match o with | some j=>(ρ[j]?).getD a! | none=>none
theorem z0u.inner(en:fL! H Y O):z0u mg H Y jb! h3!:=by
 refine⟨by simp[wU,L2.inner],λi d h=>?_⟩;simp only[wU,_C,_aj]at h;obtain⟨o,h1,h2⟩:=h;cases o with
 | none=>cases h2 | some j=>
  simp only at h2;obtain⟨v,h4,h5⟩:=en.at_ j d (by cases e:ρ[j]? with
   | none=>rw[e]at h2;cases h2 | some x=>rw[e]at h2;simp at h2;rw[h2]);exact⟨v,by simp[L2.inner,h1,h4],h5⟩
open Classical in
noncomputable def qu(g:gr! Nat D!)(all:D!)(body:D->f4! fG!):D!->D!->f4! D!
 | [],acc,s=>ac! (okG g all s) (i! acc) | x::xs,acc,s=>ac! (okG g all s) (A! (body x s) (λo s1=>match o with
   | some d=>ac! (h9!<cap) (qu g all dF! xs (acc++[d]) s1) | none=>qu g all dF! xs acc s1))
noncomputable def zd2(fi:FI)(mp:eY!)(fg:FG)(ft:FT)(fe:FE):FA:=b7! (fi ρ s) (λit s1=>qu it.2 it.1 (λd s=>A! (fg d jb! s) (fun ρ' s'=>A! (ft ρ' s') (λb s2=>aF! b (A! (fe ρ' s2) (λd s3=>gz! g!)) (bp! a!)))) it.1 [] s1)
def z8e(mg:Gm)(E:XK)(mp:eY!)(g:TG)(fg:FG):k!:=∀(O:L2.St) H Y ρ s x d (Q:L2.St->Hp->Prop),cZ!->z0u mg H Y jb! h3!->iZ! d x->dS! H Y (z0u mg) (fg d jb! s) Q-> g x h3! H (λO2 H2=>(O2.length=v! h3!/\∀(i:Nat) v,am! h3! bB!->am! O2 bB!)/\Q O2 H2)
theorem z78{i:Nat}(h:am! mp a!)(O:L2.St):am! h3! a!:=by simp[L2.inner,h]
theorem z9B{O:L2.St} (h:am! O a!):v! (lY! i)=O.length/\∀(j:Nat) u,G! O j (b! u)->G! (lY! i) j (b! u):=by
 refine⟨by simp,λj u e=>?_⟩;rw[_ac (λz=>by subst z;rw[h]at e;cases e)];exact e
section
variable {X:Cx}{E:XK}{e a b c tg iter az:Expr}{es:aD!}{pos:Pos}{CX:CXT}{mp:eY!}
theorem zH(i:Nat)(h:am! mp a!):z8e C! E mp (zfv i) (yg i):=λO H Y ρ s x d Q r en dn ok=>⟨z9B (z78 h O),(gV! ok (en.set dn i))⟩
theorem z68{Dn:Hp->bi!->β->β2->k!} (hg:z8e C! E mp g fg)(r:Rep C! H Y s)(en:rn! C! H Y O) (h:i2! C! H Y Dn (A! (zd2 fi mp fg ft fe ρ s) kR) Q2) (fin:∀H1 Y1 s1 xs vs,Rep C! H1 Y1 s1->rn! C! H1 Y1 O->yp C! H1 Y1 xs vs->i2! C! H1 Y1 Dn (kR xs s1) Q2->kn!->∀p,H1 p=a!->Q cn! (upd H1 p bQ!)): zlf (tI C! E fi) mp g (tT C! E ft) (tE C! E fe) O H Q:=by
 unfold zd2 at h;have assoc:∀{α γ δ:Type}(x:R α)(f:α->Sto->R γ)(k:γ->Sto->R δ),A! (qA! f) k=qA! (λa s=>A! (f a s) k):=λx f k=>by cases x<;>rfl
 rw[assoc]at h;refine⟨Y,ρ,s,r,en,de! h (λJ H1 ⟨Y1,s1,it,stp,ok,h1⟩=>?_)⟩;obtain⟨items,gd⟩:=it;refine aN! (λi m ys H=>∃Y s acc,vN C! H1 Y1 H Y s/\yp C! H Y acc ys/\h9!<=cap/\m=jV!-i/\i<=jV!/\ i2! C! H Y Dn (A! (qu gd hf! (λd s=>A! (fg d jb! s) (fun ρ' s'=>A! (ft ρ' s') (λb s2=>aF! b (A! (fe ρ' s2) (λd s3=>gz! g!)) (bp! a!)))) (items.drop i) acc s) kR) Q2) ⟨jV!,Y1,s1,[],.refl dH!,yp.nil,g8!,by rfl,g8!,by exact h1⟩ ?_;rintro i m ys H2 ⟨Y2,s2,acc,ag,ax,bI,rfl,nu,h2⟩;have aZ := (if!).mono ag;by_cases bF:i<jV!
 ·right;rw[_bE bF,qu]at h2;split at h2
  ·rename_i hG;obtain⟨go,yl⟩:=((ok H2 Y2 s2 ag hG i).1 items[i] (_b bF));refine⟨go,λx H' y=>?_⟩;obtain⟨Y3,aq,cz⟩:=yl x H' y;have h3:=okR.rebase h2 aq;rw[assoc,assoc]at h3;refine hg O H' Y3 ρ s2 x items[i] _ aq.rep ((aZ.mono aq).inner) cz ((okR.bind (Dn:=z0u C!) h3).imp λO4 H4 ⟨Y4,s4,ρ4,bE,il,h5⟩=>?_);rw[assoc]at h5;refine⟨Y4,ρ4,s4,bE.rep,il,de! h5 (λbb H5 ⟨Y5,s5,b',bN,eb,h6⟩=>?_)⟩;cases (eb);have fB := bb! (bb! (ag.trans aq) bE) bN;cases bb with
   | true=>
    rw[gx!]at h6 ⊢;rw[assoc]at h6;refine⟨Y5,ρ4,s5,bN.rep,il.mono bN,de! h6 (λy H6 ⟨Y6,s6,d6,ck,cQ,h7⟩=>?_)⟩;split at h7;·refine⟨by rw[ax.length];exact z0A bI,jV!-(i+1),by omega,Y6,s6,acc++[d6],(fB.trans ck),((((ax.mono aq).mono bE).mono bN).mono ck).append (yp.one cQ),by simp;omega,rfl,bF,h7⟩
    ·exact h7.elim | false=> exact⟨jV!-(i+1),by omega,Y5,s5,acc,fB,((ax.mono aq).mono bE).mono bN,bI,rfl,bF,h6⟩
  ·exact h2.elim
 ·left;have e:i=jV!:=by omega
  subst e;rw[List.drop_length,qu]at h2;split at h2
  ·rename_i hG;exact⟨(ok H2 Y2 s2 ag hG _).2 ak!,by rw[ax.length];exact z0A bI,fin H2 Y2 s2 acc ys jp! aZ ax h2 bI⟩
  ·exact h2.elim
noncomputable def zv(fi:FI)(mp:eY!)(fg:FG)(ft:FT)(fe:FE):FE:=b7! (zd2 fi mp fg ft fe ρ s) (jo! (P! bH!))
noncomputable def z1Q(fi:FI)(mp:eY!)(fg:FG)(ft:FT)(fe:FE):FE:=b7! (zd2 fi mp fg ft fe ρ s) (jo! (ac! (dc! xs) (.ok sC! (s1++[xs]))))
noncomputable def zU:FT:=λ_ s=>kY!
theorem yc: zd8 Yy [] (tT (gm Yy) E zU):=λae s O H Q I ⟨Y,ρ,st,r,en,h⟩=>zl2 ae s O H Q I (eW! rfl)
theorem wW(h:RT Yy E c f):zd8 Yy [c] (tT (gm Yy) E f):=zlg h
section
variable {scope:Scope}{aC:aD!}{fi:FI}{fg:FG}{ft:FT}{fe:FE}{g:TG}{aF py:Pos}
theorem zpl(N':ao!)(mp:eY!)(hc:bW!)(hi:RI X E tg h6! fi)(hg:lT! cA! tg g)(cq:z8e C! E mp g fg)(ht:lR! cA! aC (tT C! E ft))(he:p1! cA! az fe) (aV:kc!)(aR:∀y∈scope.names,jT! y.1=b! y.2) (aI:∀y∈scope.names,y.2=bV!->fT! y.1=dz!\/fT! y.1=b! bV!)(aX:ku! N' mp=d!) (hs:lb! (k4! x=la!)):X! (gd! [gE! 0]) (zv fi mp fg ft fe):= yq (zhJ (te:=tE C! E fe) N' mp hc hi hg ht (λex s H=>he ex s H) aV aR aI aX hs).freeze λO H Q ⟨Y,ρ,s,r,en,h⟩=> z68 cq r en h λH1 Y1 s1 xs vs r1 av dn h1 bI=>z0L r1 h1 dn
theorem zfA(N':ao!)(mp:eY!)(hN:X.N.Nodup)(hc:bW!)(hi:RI X E tg h6! fi)(hg:lT! cA! tg g)(cq:z8e C! E mp g fg)(ht:lR! cA! aC (tT C! E ft))(he:p1! cA! az fe) (aV:kc!)(aR:∀y∈scope.names,jT! y.1=b! y.2) (aI:∀y∈scope.names,y.2=bV!->fT! y.1=dz!\/fT! y.1=b! bV!)(aX:ku! N' mp=d!)(hy:y! (f5! y))(cJ:ky! y) (hs:lb! (k4! x=la!)) (cK:y! (mu! (gd! [gE! 0]) (b! ge!) qt!=rz!)) (hf:gT! (f3! y\/eU! y)): RS X E (.Assign [ge!] (gd! [gE! 0]) aF) (yz i (zv fi mp fg ft fe)):= z0z (zde (te:=tE C! E fe) N' mp hN hy cJ hc hi hg ht (λex s H=>he ex s H) aV aR aI aX hs cK hf) λD O H ⟨Y,ρ,s,r,en,h⟩=>by
  unfold yz zv at h;rw[(λx f k=>by cases x<;>rfl:∀{α γ δ:Type}(x:R α)(f:α->Sto->R γ)(k:γ->Sto->R δ),A! (qA! f) k=qA! (λa s=>A! (f a s) k))]at h;exact z68 cq r en h λH1 Y1 s1 xs vs r1 av dn h1 bI p hp=>(z0L (E:=E) r1 (λv H2 Y2 stp ax=>(h1 (.nx (lY! i)) H2 Y2 stp ((av.mono stp).set ax i))) dn p hp)
theorem zg2(N':ao!)(mp:eY!)(hN:X.N.Nodup)(hc:bW!)(hi:RI X E tg h6! fi)(hg:lT! cA! tg g)(cq:z8e C! E mp g fg)(ht:lR! cA! aC (tT C! E ft))(he:p1! cA! az fe) (aV:kc!)(aR:∀y∈scope.names,jT! y.1=b! y.2) (aI:∀y∈scope.names,y.2=bV!->fT! y.1=dz!\/fT! y.1=b! bV!)(aX:ku! N' mp=d!)(hy:y! (f5! y))(cJ:ky! y) (hs:lb! (k4! x=la!)) (cK:y! (mu! (gd! [gE! 0]) (b! ge!) qt!=rz!)) (hf:gT! (f3! y\/eU! y)): RS X E (.Assign [ge!] (gd! [gE! 0]) aF) (yz i (z1Q fi mp fg ft fe)):= z0z (zfZ (te:=tE C! E fe) N' mp hN hy cJ hc hi hg ht (λex s H=>he ex s H) aV aR aI aX hs cK hf) λD O H ⟨Y,ρ,s,r,en,h⟩=>by
  unfold yz z1Q at h;rw[(λx f k=>by cases x<;>rfl:∀{α γ δ:Type}(x:R α)(f:α->Sto->R γ)(k:γ->Sto->R δ),A! (qA! f) k=qA! (λa s=>A! (f a s) k))]at h;refine z68 cq r en h λH1 Y1 s1 xs vs r1 av dn h1 bI p hp=>?_;split at h1
  ·rename_i hf;have stp:=vN.layL r1 hp dn hf;refine h1 (.nx (O.set i (a0! p))) _ _ stp ((av.mono stp).set ?_ i);exact⟨p,rfl,by rw[<- r1.len];simp,vs,yB⟩
  ·exact h1.elim
end
end
section
variable {X:Cx}{E:XK}{e a b c tg iter az:Expr}{es:aD!}{pos:Pos}{CX:CXT}{mp:eY!}
noncomputable def zmz(K:W.Frag)(i j:Nat):TG:=zvi K 2 (znV (zfv i) (znV (zfv j) zv4))
theorem xN(i j:Nat){x y:Str}{px py:Pos}{kt:Nat}(hc:bW!)(hN:X.N.Nodup)(hi:y! (f5! x))(hj:y! (G! X.N j y))(hx:ky! x)(hy:ky! y) (hf:gT! (f3! x\/eU! x))(fm:gT! (f3! y\/eU! y)): PG X (iV! [fe! px,ge!] pos) (zmz X.K i j):=ziv hc (z0r (zL hN hi hx hf) (z0r (zL hN hj hy fm) zdS))
theorem xH(i j:Nat)(aJ:i≠j)(h:am! mp a!)(h':G! mp j a!):z8e C! E mp (zmz X.K i j) (yT i j):=λO H Y ρ s x d Q r en dn ok=>by
 unfold yT at ok;split at ok
 ·obtain⟨p,vs,rfl,q1,q2⟩:=kU dn;obtain⟨v1,v2,rfl,e1,e2⟩:=zaW q2;have k1:=z9B (v:=v1) (z78 h O);have k2:=z9B (v:=v2) (show G! (gX! h3! i v1) j a! from by rw[_ac aJ];exact z78 h' O);exact⟨p,[v1,v2],rfl,q1,rfl,v1,[v2],rfl,v2,[],rfl,rfl,⟨k2.1.trans k1.1,λl u e=>k2.2 l u (k1.2 l u e)⟩,gV! ok ((en.set e1 i).set e2 j)⟩
 ·exact ok.elim
end
noncomputable def zy(N:ao!)(ds:D!):Ev:=ds.map some++oE! (N.length-qw!)
theorem z1D: r2! i7! (z0u mg H Y (zy N ds) (L2.start N vs)):=λ{ds vs} h=>by
 have hl:=h.length;refine⟨by simp[zy,L2.start,hl],λi d e=>?_⟩;unfold zy at e;have hi:i<qw!:=by
  by_cases hi:i<qw!;·exact hi
  ·rw[_bw (by simpa using hi),_be]at e;split at e<;>cases e
 rw[_F (by simpa using hi),_C]at e;obtain⟨v,h1,h2⟩:=h.get (by cases q:ds[i]? with
  | none=>rw[q]at e;cases e | some x=>rw[q]at e;simp at e;rw[e]);refine aN! v ?_ h2;unfold L2.start;rw[_F (by simpa[hl] using hi),_C,h1];rfl
noncomputable def Mof(N:ao!)(n:Nat)(fs:FS):Mir:=λds s=>ac! (qw!=n) (match fs (zy N ds) s with
 | .ok (.rt d) s'=>bj! d | .ok (.nx _) s'=>bj! an! | _=>.no)
section
variable {P:Program}{w:World}{K:W.Frag}{mg:Str->aL!}{base:Heap}
theorem Has.mono(h:Has P w K mg R! CX x n M)(hl:n<=m):Has P w K mg R! CX x m M:=by
 obtain⟨f,fd,ps,F,r⟩:=h;exact⟨f,fd,ps,F.mono hl,r⟩
theorem zqO{st:Stmt} (F:Fun K x at! st f fd)(hm:mg x=a0! f)(hb:km! K ps [])(S:S! N ps st)(hn:a2!=n) (body:sk! (z2z k (kd! at! c6! f aj)) ((z5v CX0 P w K mg R! N at! c6! f aj A as! s H E).nox.calm=d!-> RSs (z5v CX0 P w K mg R! N at! c6! f aj A as! s H E).nox E0 h2! fs)):Has P w K mg R! CX0 x (k+1) (Mof N n fs):=by
 subst hn;refine⟨f,fd,ps,F.ok S (qB! ?_) (λaj A outer s H vs Q E hr h=>?_),hb,F.kp,hm⟩
 ·obtain⟨Y,s,ds,_,dn,h⟩:=h;unfold Mof at h;split at h;·rename_i e;rw[dn.length];exact e
  ·exact h.elim
 ·obtain⟨Y,cr,ds,r,dn,h⟩:=h;refine⟨_,body aj A as! s H E hr (by show A.handled.isNone=d!;rw[show nw! from hr.hd];rfl),Y,zy N ds,cr,r,z1D dn,?_⟩;unfold Mof at h;split at h
  ·split at h
   ·rename_i d s' e;rw[e];intro fv H' Y' stp fd;cases fv with
    | rt v=>exact h v H' Y' stp fd | _=>exact b5! fd
   ·rename_i ρ s' e;rw[e];intro fv H' Y' stp fd;cases fv with
    | nx v=>exact h an! H' Y' stp rfl | _=>exact b5! fd
   ·exact h.elim
  ·exact h.elim
theorem zr7{st:Stmt} (F:Fun K x at! st f fd)(hm:mg x=a0! f)(hb:km! K ps []):Has P w K mg R! CX0 x 0 (λ_ _=>.no):= ⟨f,fd,ps,⟨qB! (by obtain⟨_,_,_,_,_,h⟩:=h;exact h.elim),λA outer s H args us vs Q E _ _ _ _ h=>by obtain⟨_,_,_,_,_,h⟩:=h;exact h.elim⟩,hb,F.kp,hm⟩
end
def zo4(K:W.Frag):Sp:=λvs H Q _=>∃(a:Addr)(ns:List Int),vs=[ag!]/\zu9 H/\SqL K H a hQ!/\fA!<=63/\∀H',Q eV! H'
theorem z4Y: ∀(ns:List Int),gw! H Y ie! hQ!
 | []=>yp.nil | n::ns=>pk! yK (z4Y ns)
theorem zrp{K:W.Frag} {x:Str} (F:z9Z P w K mg R! CX0 n f fd ps (zjR ⟨mg,K⟩ M)) (h:∀ns:List Int,fA!<=63->∃s',M [.scr ie!] []=bj! eV!):z9Z P w K mg R! CX0 n f fd ps (zo4 K):= F.imp λvs H Q E ⟨a,ns,e,ho,hq,hl,q⟩=>by
  subst e;obtain⟨s',hs⟩:=h ns hl;refine⟨[],[],[.scr ie!],⟨rfl,List.nodup_nil,λl xs z=>by simp at z,λxs z=>by simp at z,λb h z=>by simp at z,λa ha=>by simp at ha⟩,yp.one ?_,?_⟩
  ·refine gW! a hQ! ?_ (z4Y ns);rcases hq with (z | z) | z
   ·rcases ho a with y | ⟨o,xs,y⟩;·rw[y]at z;cases z
    ·rw[y]at z;cases z
   ·exact z! z
   ·exact T! z
  ·rw[hs];intro v H' Y' stp dn;cases z0B dn;exact q H'
section
variable {X:Cx}{E:XK}{e a b c tg iter az:Expr}{es:aD!}{pos:Pos}{CX:CXT}
noncomputable def z2A(f:FE):FE:=eO! (eb! (match d with | .int i=>P! (c! (-i)) | _=>.no))
theorem z3T(h:X! a f):X! (.UnaryOp .USub a pos) (z2A f):= yq (zqZ zlS h) λO H Q ⟨Y,ρ,s,r,en,h⟩=>by
  refine yS (k:=kF! (match d with | .int i=>eN! (aK! (-i)) s1 | _=>.no)) r en h _ λv H1 Y1 s1 d r1 av dn stp h1=>?_;cases d with
  | int i=>
   cases yx dn;exact aB! i (oe! h1 r1 yK) | _=>exact h1.elim
noncomputable def z3U(i:Int)(n:Nat):D!:=aP! n (λ(k:Nat)=>aK! (i+ab! k))
noncomputable def zdh(f:FA):FI:=b7! ay! (iJ! (match ds with
 | [.int i,.int j]=>ac! (-(2 ^ 62)<=i/\i<2 ^ 62/\-(2 ^ 62)<=j/\j<2 ^ 62) (P! (z3U i (j-i).toNat,[])) | _=>.no))
theorem zeF{p:Pos} (hg:o2!)(hm:dM! ft!)(ha:RA X E [a,b] f)(hs:y! (au! [a,b]=[d1! a,d1! b]))(bT:y! (au! [b]=[d1! b])):RI X E tg (do! ft! p [a,b]) (zdh f):= z8G (zhq hg hm ha hs bT) λO H Q ⟨Y,ρ,s,r,en,h⟩=>by
  refine⟨Y,ρ,s,r,en,de! h (λvs H1 ⟨Y1,s1,ds,stp,dn,h1⟩=>?_)⟩;split at h1
  ·rename_i i j;split at h1
   ·rename_i hj;obtain⟨v,v',rfl,d1,d2⟩:=zaW dn;cases yx d1;cases yx d2;refine gW! i j hj (oI! (λH2 Y2 s2 ag _ k=>⟨hI! ?_,λhl=>?_⟩))
    ·have hi:k<fy! (j-i):=by simpa[z3U] using (cV! hd)
     refine⟨hi,λx H' ⟨e1,e2⟩=>?_⟩;subst e1 e2;refine⟨Y2,.refl jp!,?_⟩;rw[(show d=aK! (i+k) from by
      simp only[z3U,_C,_aF hi,_ah,_y]at hd;exact hd.symm)];exact yK
    ·rw[<- (show v! (z3U i (j-i).toNat)=fy! (j-i) from by simp[z3U])];exact hl
   ·exact h1.elim
  ·exact h1.elim
end
noncomputable def isK(o:bn! lr!)(k:NameKind):Bool:=match o,k with
 | some .local,.local=>true | some .cell,.cell=>true | some .free,.free=>true | some .globalImplicit,.globalImplicit=>true | _,_=>false
theorem zhR(h:isK o k=d!):o=b! k:=by cases o with
 | none=>cases k<;>cases h | some j=>cases j<;>cases k<;>first | rfl | cases h
noncomputable def isF(k:NameKind):Bool:=match k with | .free=>true | _=>false
theorem zpJ(h:k=bV!):isF k=d!:=by subst h;rfl
noncomputable def ziC(ko:Str->bn! lr!)(names:dL! lr!):Bool:=names.all λy=>! isF y.2||(isK (ko y.1) .cell||isK (ko y.1) bV!)
theorem z5M(h:ziC ko hg!=d!):∀y∈names,y.2=bV!->ko y.1=dz!\/ko y.1=b! bV!:=λy hy hf=>by
 have:=_P.mp h y hy;rw[zpJ hf]at this;simp only[Bool.not_true,Bool.false_or,Bool.or_eq_true]at this;exact this.imp zhR zhR
noncomputable def zgQ(names:dL! lr!):Bool:=names.all λy=>isK (names.lookup y.1) y.2
theorem z5Y(h:zgQ hg!=d!):∀y∈names,names.lookup y.1=b! y.2:=cs! (zhR (_P.mp h y hy))
section
variable {X:Cx}{E:XK}{e a b c tg iter az:Expr}{es:aD!}{pos:Pos}{CX:CXT}
variable {scope:Scope}{aC:aD!}{fi:FI}{fg:FG}{ft:FT}{fe:FE}{g:TG}{aF py:Pos}
theorem zvm(hg:e6!)(hm:∃t,X.mg x=b! (bS! i))(hd:cm! (x==cP!)):X! mW! (E! i):=let ⟨_,h⟩:=hm;zqH hg h hd
theorem zJ(N':ao!)(mp:eY!)(hc:bW!)(hi:RI X E tg h6! fi)(hg:lT! cA! tg g)(cq:z8e C! E mp g fg)(ht:lR! cA! aC (tT C! E ft))(he:p1! cA! az fe) (aV:y! kc!)(aR:di! (zgQ lt!))(aI:di! sz!)(aX:di! (ku! N' mp)) (hs:lb! (k4! x=la!)):X! (gd! [gE! 0]) (zv fi mp fg ft fe):= zpl N' mp hc hi hg cq ht he aV (z5Y aR) (z5M aI) aX hs
theorem zdf(i:Nat){y:Str}(N':ao!)(mp:eY!)(hN:X.N.Nodup)(hc:bW!)(hi:RI X E tg h6! fi)(hg:lT! cA! tg g)(cq:z8e C! E mp g fg)(ht:lR! cA! aC (tT C! E ft))(he:p1! cA! az fe) (aV:y! kc!)(aR:di! (zgQ lt!))(aI:di! sz!)(aX:di! (ku! N' mp))(hy:y! (f5! y))(cJ:ky! y) (hs:lb! (k4! x=la!)) (cK:y! (mu! (gd! [gE! 0]) (b! ge!) qt!=rz!)) (hf:gT! (f3! y\/eU! y)): RS X E (.Assign [ge!] (gd! [gE! 0]) aF) (yz i (zv fi mp fg ft fe)):= zfA N' mp hN hc hi hg cq ht he aV (z5Y aR) (z5M aI) aX hy cJ hs cK hf
theorem zoo(i:Nat){y:Str}(N':ao!)(mp:eY!)(hN:X.N.Nodup)(hc:bW!)(hi:RI X E tg h6! fi)(hg:lT! cA! tg g)(cq:z8e C! E mp g fg)(ht:lR! cA! aC (tT C! E ft))(he:p1! cA! az fe) (aV:y! kc!)(aR:di! (zgQ lt!))(aI:di! sz!)(aX:di! (ku! N' mp))(hy:y! (f5! y))(cJ:ky! y) (hs:lb! (k4! x=la!)) (cK:y! (mu! (gd! [gE! 0]) (b! ge!) qt!=rz!)) (hf:gT! (f3! y\/eU! y)): RS X E (.Assign [ge!] (gd! [gE! 0]) aF) (yz i (z1Q fi mp fg ft fe)):= zg2 N' mp hN hc hi hg cq ht he aV (z5Y aR) (z5M aI) aX hy cJ hs cK hf
end
theorem zpT{K:W.Frag} {st:Stmt} (F:Fun K x at! st f fd)(S:S! N ps st)(hn:a2!=n) (body:sk! (z2z k (kd! at! c6! f aj)) ((z5v CX0 P w K mg R! N at! c6! f aj A as! s H E).nox.calm=d!-> RSs (z5v CX0 P w K mg R! N at! c6! f aj A as! s H E).nox E0 h2! fs)):z9Z P w K mg R! CX0 (k+1) f fd ps (zjR ⟨mg,K⟩ (Mof N n fs)):=by
 subst hn;refine F.ok S (qB! ?_) (λaj A outer s H vs Q E hr h=>?_)
 ·obtain⟨Y,s,ds,_,dn,h⟩:=h;unfold Mof at h;split at h;·rename_i e;rw[dn.length];exact e
  ·exact h.elim
 ·obtain⟨Y,cr,ds,r,dn,h⟩:=h;refine⟨_,body aj A as! s H E hr (by show A.handled.isNone=d!;rw[show nw! from hr.hd];rfl),Y,zy N ds,cr,r,z1D dn,?_⟩;unfold Mof at h;split at h
  ·split at h
   ·rename_i d s' e;rw[e];intro fv H' Y' stp fd;cases fv with
    | rt v=>exact h v H' Y' stp fd | _=>exact b5! fd
   ·rename_i ρ s' e;rw[e];intro fv H' Y' stp fd;cases fv with
    | nx v=>exact h an! H' Y' stp (by rfl) | _=>exact b5! fd
   ·exact h.elim
  ·exact h.elim
section
variable {all xs:D!}{ρ:Ev}{s:Sto}
theorem zaa(I:Ev->Sto->k!):∀(xs:List D),(∀x∈xs,∀ ρ s,I ρ s->∃ ρ' s',body x ρ s=K! ρ' s'/\I ρ' s')->∀ ρ s,I ρ s->∃ ρ' s',yU [] all dF! xs ρ s=K! ρ' s'/\I ρ' s'
 | [],_,ρ,s,h=>⟨ρ,s,by simp[yU,okG],h⟩ | x::xs,hb,ρ,s,h=>by
  obtain⟨ρ1,s1,e1,h1⟩:=hb x (by simp) ρ s h;obtain⟨ρ2,s2,e2,h2⟩:=zaa I xs (cs! (hb y (by simp[hy]))) ρ1 s1 h1;exact⟨ρ2,s2,by simp[yU,okG,e1,e2],h2⟩
theorem zbw(f:D->D):∀(xs acc:List D),(∀x∈xs,body x s=i! (b! (f x)))->h9!+w!<=cap->qu [] all dF! xs acc s=i! (acc++nX! f)
 | [],acc,_,_=>by simp[qu,okG] | x::xs,acc,hb,hl=>by
  rw[qu];simp[okG,hb x (by simp),(show h9!<cap from by simp at hl;lia),(zbw f xs (acc++[f x]) (cs! (hb y (by simp[hy]))) (by simp at hl ⊢;lia))]
end
section
variable (i j k n:Nat)(ρ:Ev)(s:Sto)(f g fa fb fc:FE)(d x y:D)(ds:D!)(ar:FA)(op df:D->D->bm!)(ft gx:FT)(fs dW:FS)(M:Mir)(T:String)(fl fh fo:FO)(fi:FI)(fg:FG)(mp:eY!)(N:ao!)
@[simp] theorem yh:zd i ρ s=(match ρ[i]? with | some (some d)=>i! d | _=>.no):=U!
@[simp] theorem qr:eC d ρ s=i! d:=U!
@[simp] theorem yH:eOp op fa fb ρ s=A! (gF! s) (λx s1=>A! gb! (λy s2=>op x y s2)):=U!
@[simp] theorem yi:zg M ar ρ s=A! (ar ρ s) (jo! (M xs s1)):=U!
@[simp] theorem zK:zj ρ s=i! []:=U!
@[simp] theorem zr:zb f ar ρ s=j8! (λx s1=>A! (ar ρ s1) (λxs s2=>bp! (x::xs))):=U!
@[simp] theorem z1L:vG ar ρ s=A! (ar ρ s) (jo! (ac! kn! (P! ap!))):=U!
@[simp] theorem z1d:qt ar ρ s=A! (ar ρ s) (jo! (ac! kn! (P! bH!))):=U!
@[simp] theorem z9j:zaR ar ρ s=A! (ar ρ s) (jo! (ac! (kn!/\dc! xs) (.ok sC! (s1++[xs])))):=U!
@[simp] theorem zqE:eIs T f ρ s=eb! (gIs T d s1):=U!
@[simp] theorem zh1:z2A f ρ s=eb! (match d with | .int i=>P! (c! (-i)) | _=>.no):=U!
@[simp] theorem zuS:zrT f ρ s=j8! (λx s1=>match x with | .bl k=>P! (.bl (!k)) | _=>.no):=U!
@[simp] theorem zfd:zdt fa fb ρ s=A! (gF! s) (λx s1=>match x with | .bl true=>gb! | .bl false=>P! fC! | _=>.no):=U!
@[simp] theorem zqR:eIf ft fa fb ρ s=A! (ft ρ s) (λx s1=>aF! x (gF! s1) gb!):=U!
@[simp] theorem zaK:eSl f fl fh ρ s=j8! (λx s1=>A! (fl ρ s1) (λlo s2=>A! (fh ρ s2) (λhi s3=>dSl x lo hi s3))):=U!
@[simp] theorem qh:zE ρ s=i! a!:=U!
@[simp] theorem z1e:yD f ρ s=eb! (match d with | .int i=>P! is! | _=>.no):=U!
@[simp] theorem jt:tOf f ρ s=eb! (match d with | .bl k=>P! k | _=>.no):=U!
@[simp] theorem zj3:zlM ft gx ρ s=A! (ft ρ s) (λx s1=>aF! x (gx ρ s1) (P! t!)):=U!
@[simp] theorem zai:fOr ft gx ρ s=A! (ft ρ s) (λx s1=>aF! x (P! d!) (gx ρ s1)):=U!
@[simp] theorem jR:jJ ft ρ s=A! (ft ρ s) (λx s1=>P! (!x)):=U!
@[simp] theorem zrH:zfn op df fa fb fc ρ s=A! (gF! s) (λx s1=>A! gb! (λy s2=>A! (op x y s2) (λz s3=>match z with
 | .bl true=>A! (fc ρ s3) (λw s4=>df y w s4) | .bl false=>gz! fC! | _=>.no))):=U!
@[simp] theorem zlo:zA fs dW ρ s=A! (fs ρ s) (λfl s1=>match fl with | .nx ρ'=>dW ρ' s1 | fl=>P! fl):=U!
@[simp] theorem zta:yV ρ s=aW! ρ:=U!
@[simp] theorem zw0:fNo ρ s=.no:=U!
@[simp] theorem z1o:wy f ρ s=j8! (λ_ s1=>g6! ρ):=U!
@[simp] theorem yo:xb f ρ s=eb! (P! (.rt d)):=U!
@[simp] theorem z6U:fIf ft fs dW ρ s=A! (ft ρ s) (λx s1=>aF! x (fs ρ s1) (dW ρ s1)):=U!
@[simp] theorem zR:yz i f ρ s=eb! (g6! (ij! g!)):=U!
@[simp] theorem zcx:zgl f fg ρ s=eb! (A! (fg d ρ s1) (fun ρ' s2=>K! ρ' s2)):=U!
@[simp] theorem zuX:zrR i j ar ρ s=A! (ar ρ s) (iJ! (match ds with | [x,y]=>g6! (gX! (ij! fk!) j y) | _=>.no)):=U!
@[simp] theorem ua:yg i d ρ s=i! (ij! g!):=U!
@[simp] theorem z9y:yT i j (n! [x,y]) ρ s=i! (gX! (ij! fk!) j y):=U!
@[simp] theorem zir:z1g fa fb fc ρ s=A! (fc ρ s) (λd s1=>A! (gF! s1) (λo s2=>A! (fb ρ s2) (λi s3=>match o,i with
 | .loc l,.int k=>match s3[l]? with
  | some xs=>match kP! k with
   | some j=>ac! mQ! (K! ρ (s3.set l (iB! j d))) | none=>.no
  | none=>.no
 | _,_=>.no))):=U!
@[simp] theorem ke:zP f ρ s=eb! (match d with
 | .tup xs=>P! (xs,[]) | .lst xs=>P! (xs,[]) | .loc l=>match s1[l]? with | some xs=>P! (xs,[(l,xs)]) | none=>.no
 | _=>.no):=U!
@[simp] theorem zeT:jW ar ρ s=A! (ar ρ s) (iJ! (match ds with
 | [.int j]=>ac! (-(2 ^ 62)<=j/\j<2 ^ 62) (P! (sb!,[])) | _=>.no)):=U!
@[simp] theorem zny:zdh ar ρ s=A! (ar ρ s) (iJ! (match ds with
 | [.int i,.int j]=>ac! (-(2 ^ 62)<=i/\i<2 ^ 62/\-(2 ^ 62)<=j/\j<2 ^ 62) (P! (z3U i (j-i).toNat,[])) | _=>.no)):=U!
@[simp] theorem zht:z54 ar ρ s=A! (ar ρ s) (iJ! (match ds with
 | [x,y]=>match z94 s1 x,z94 s1 y with
  | some p,some q=>P! (z4I p.1 q.1,p.2++q.2) | _,_=>.no
 | _=>.no)):=U!
@[simp] theorem jP:z5S fi fg fs ρ s=A! (fi ρ s) (λit s1=>yU it.2 it.1 (eA! (fg d ρ s) (fs ρ' s')) it.1 ρ s1):=U!
@[simp] theorem uJ:zd2 fi mp fg ft f ρ s=A! (fi ρ s) (λit s1=>qu it.2 it.1 (λd s=>A! (fg d jb! s) (fun ρ' s'=>A! (ft ρ' s') (λb s2=>aF! b (A! (f ρ' s2) (λd s3=>gz! g!)) (bp! a!)))) it.1 [] s1):=U!
@[simp] theorem uh:zv fi mp fg ft f ρ s=A! (zd2 fi mp fg ft f ρ s) (jo! (P! bH!)):=U!
@[simp] theorem zef:z1Q fi mp fg ft f ρ s=A! (zd2 fi mp fg ft f ρ s) (jo! (ac! (dc! xs) (.ok sC! (s1++[xs])))):=U!
@[simp] theorem z4e:zU ρ s=kY!:=U!
@[simp] theorem z9o:zdB fa fb ρ s=A! (gF! s) (λo s1=>match o with
 | .loc l=>A! gb! (λd s2=>match s2[l]? with
  | some xs=>ac! (mQ!/\w!<cap) (.ok an! (og! l (xs++[d]))) | none=>.no)
 | _=>.no):=U!
@[simp] theorem jv:wU [] ρ=[]:=U!
@[simp] theorem kB:wU (is!::mp) ρ=(ρ[i]?).getD a!::jb!:=U!
@[simp] theorem kI:wU (a!::mp) ρ=a!::jb!:=U!
variable (a b:Int)(u v:Bool)(xs ys:D!)
@[simp] theorem zbz:xh f9! e2! s=x! (a+b):=rfl
@[simp] theorem z36:xh ap! (n! ys) s=ac! (w!+c9!<=cap) (a7! (xs++ys)):=rfl
@[simp] theorem z70:xh bH! hW! s=ac! (w!+c9!<=cap) (bA! (xs++ys)):=rfl
@[simp] theorem zln:z8L f9! e2! s=x! (a-b):=rfl
theorem zgN:yC f9! e2! s=ac! (a.natAbs<BIG/\b.natAbs<BIG) (x! (a*b)):=by
 simp only[yC,dII,iOk];split<;>(rename_i h;split at h<;>simp_all)
theorem zak:z3Y f9! e2! s=ac! (0<b/\b.natAbs<BIG) (x! (a / b)):=by
 simp only[z3Y,dII,iOk];split<;>(rename_i h;split at h<;>simp_all)
theorem zpo:zeK f9! e2! s=ac! (0<b) (x! (a % b)):=by
 simp only[zeK,dII,iOk];split<;>(rename_i h;split at h<;>simp_all)
theorem zmk:zeL f9! e2! s=ac! (0<=b/\dn! b/\a.natAbs<fv!) (x! (a ^ pm!)):=by
 simp only[zeL,dII,iOk];split<;>(rename_i h;split at h<;>simp_all)
@[simp] theorem zsB:dLt f9! e2! s=aV! (dO! a b):=rfl
@[simp] theorem ztB:dLe f9! e2! s=aV! (jP! a b):=rfl
@[simp] theorem zsx:dGt f9! e2! s=aV! (dO! b a):=rfl
@[simp] theorem zvL:dGe f9! e2! s=aV! (jP! b a):=rfl
@[simp] theorem zdv:dEq f9! e2! s=aV! (fh! a b):=by rfl
@[simp] theorem z5r:dNe f9! e2! s=aV! (ci! a b):=by
 rw[dNe,(show eqD f9! e2!=fh! a b from by
  simp only[eqD,zvH,PyData.eqv];rw[Bool.eq_iff_iff];rfl),_h (by constructor<;>rfl)];simp
@[simp] theorem zvO:dEq (.bl u) (.bl v) s=aV! (u==v):=by cases u<;>cases v<;>rfl
@[simp] theorem zvM:dNe (.bl u) (.bl v) s=aV! (u != v):=by cases u<;>cases v<;>rfl
end
theorem zn(h:ay!=K! ρ' s'):zA f g ρ s=g ρ' s':=by simp[h]
theorem z0D(h:ay!=bj! (.rt d)):zA f g ρ s=bj! (.rt d):=by simp[h]
theorem z1F(I:Nat->Ev->Sto->k!):∀(xs:List D)(k:Nat),(∀j x,G! xs j x->∀ ρ s,I (k+j) ρ s->∃ ρ' s',body x ρ s=K! ρ' s'/\I (k+j+1) ρ' s')-> ∀ ρ s,I k ρ s->∃ ρ' s',yU [] all dF! xs ρ s=K! ρ' s'/\I (k+w!) ρ' s'
 | [],k,_,ρ,s,h=>⟨ρ,s,by simp[yU,okG],h⟩ | x::xs,k,hb,ρ,s,h=>by
  obtain⟨ρ1,s1,e1,h1⟩:=hb 0 x (by rfl) ρ s h;obtain⟨ρ2,s2,e2,h2⟩:=z1F (all:=all) I xs (k+1) (λj y hy ρ s hi=>by
   rw[(show k+1+j=k+(j+1) from by lia)]at hi ⊢;exact hb (j+1) y (by exact hy) ρ s hi) ρ1 s1 h1;refine⟨ρ2,s2,by simp[yU,okG,e1,e2],?_⟩;rw[(show k+v! (x::xs)=k+1+w! from by simp;lia)];exact h2
theorem z3r(h:G! (yt n) j x):j<n/\x=c! j:=by
 have hj:j<n:=by simpa[yt] using (cV! h)
 refine aw! hj ?_;simp only[yt,_C,_aF hj,_ah,_y]at h;exact h.symm
theorem zg5(h:x∈yt n):∃j:Nat,j<n/\x=c! j:=by
 obtain⟨j,hj,e⟩:=gM! h;have:=z3r (by rw[_b hj,e]);exact aN! j (jq!).1 (jq!).2
theorem yR:∀(ns:List Int),dc! ie!
 | []=>rfl | n::ns=>yR ns
theorem z33(i:Int):(aK! i).flat=d!:=rfl
theorem z12:∀{xs:List D}{d:D},dc! xs->d∈xs->mQ!
 | x::xs,d,f,h=>by
  simp only[flC,flN,_R]at f;rcases dE! h with rfl | h;·exact f.1
  ·exact z12 f.2 h
theorem kT.flatten(k:bD! (cY! o->(∀vs,o≠bQ!)->(∀ah,o≠le!)->(∀ah,a1! ah->o≠g2!)->H' b=b! o))(f:dc! ys)(e:H' c=H c)(ha:c∈Y)(ro:∀b,Own H Y b->b∉Y)(w:∀b vs,b∉Y->cY! bQ!->H' b=b! bQ!)(h:kT mg H Y ys c):kT mg H' Y' ys c:=by
 rcases h with⟨vs,h1,h2⟩ | ⟨ah,h1,h2⟩ | ⟨o,ah,ys,h1,h2⟩ | ⟨ah,g,h1,h2⟩ | ⟨o,ah,ys,h1,e1,h2,fz⟩;·exact z! ⟨vs,mD!,h2.flatten k f⟩
 ·exact T! (z! ⟨ah,mD!,h2⟩)
 ·exact ig! (z! ⟨o,ah,ys,mD!,h2⟩)
 ·refine T! (ig! (z! ⟨ah,g,mD!,h2.imp (λzs vs k' hm q=>q.flatten k ?_) (λq b vs hm=>w b vs (ro b ⟨c,ha,ah,q,h1,hm⟩)) λb o vs q=>k b _ q (by intro vs z;cases z) (by intro vs z;cases z) (by intro vs g z;cases z)⟩));rcases hm with hm | hm;·exact (nj! (z12 f hm)).1
  ·exact (nj! (z12 f hm)).1
 ·subst e1;have f:dc! ys:=by exact f
  refine ig! (ig! ⟨o,ah,ys,mD!,rfl,h2.imp (λzs vs k' hm q=>q.flatten k ?_) (λq b vs hm z=>b5! (h2.fz fz.1 hm z)) λb o vs q=>k b _ q (by intro vs z;cases z) (by intro vs z;cases z) (by intro vs g z;cases z),fz⟩);rcases hm with hm | hm;·exact (nj! (z12 f hm)).1
  ·exact (nj! (z12 f hm)).1
end Dd
namespace Zz
open PySem.AutoSeq1 (wpAny_loadPart')
section
variable {P:Program}{w:World}{A:Around}{E:bX!}{s:Shared}
theorem zor{k:Nat} (he:IsEnum I! e it k bx) (h1:Sit b I! it l k) (c1:hT! b l xs) (ex:G! xs k x) (ne:e≠it) (q:∀h',IsEnumOut h' e it (j! k+1) x ar!->Sit b h' it l (k+1)->gp! ar! ({cls:=dK!,data:=.seq #[bx! k fU!,x]})-> (∀c o,c≠e->c≠it->dp! c->dC! c)->Q (b! fZ!) {s with heap:=h',toks:=fU!+1}):gn! P w A (pf! (u! e)) Q E s:=by
 have hT:pi! (u! e) gH!:=ca! he;refine _a (_db (_ag hT _bu (_av _bu hT F.entry_enumerate_next ?_ (F.args_enumerate_next_1 _))));obtain⟨hp,g,d,tk,os⟩:=s;show wpAny _ _ (field (u! e) 2 >>= _) _ _ _;refine _a (jL! he (_a (nx h1 c1 ex λg1 t1 s1=>?_)));have e1 := bb! (s1.2 e ne) he;refine _a (jL! e1 ?_);refine _a (jL! e1 ?_);refine _a (wpAny_mkInt ?_);refine _a (_an e1 (by simp) λg2 e2 s2=>?_);refine _a (_an e2 (by simp) λg3 e3 s3=>?_);refine _a (_cH ?_);have e4:IsEnum (g3.push {cls:=dK!,data:=.seq #[bx! k tk,x]}) e it (k+1) bx:=_g _ e3;generalize hg4:g3.push {cls:=dK!,data:=.seq #[bx! k tk,x]}=g4 at e4;have sz:g3.objs.size=hp.objs.size:=by rw[s3.1,s2.1,s1.1]
 have el := _q he;have t4:g4.get? hp.objs.size=b! ({cls:=dK!,data:=.seq #[bx! k tk,x]}):=by rw[<- hg4,<- sz];exact g9!
 have i4:Sit b g4 it l (k+1):=t1.to λo z=>by rw[<- hg4];exact _g _ (zI s3 ne.symm (zI s2 ne.symm z))
 rw[sz];refine _a ?_;refine _a (jL! e4 (_m ?_));refine _a (_cB ?_);refine _a (jL! e4 (_a (_an e4 (by simp) λg5 e5 s5=>?_)));refine _a ?_;refine _a (_an e5 (by simp) λg6 e6 s6=>?_);refine _an e6 (by simp) λg7 e7 s7=>?_;have up:∀c o,c≠e->g4.get? c=b! o->g7.get? c=b! o:=λc o n z=>zI s7 n (zI s6 n (zI s5 n z));refine _a (sG! (aB! _ (_m (q g7 e7 (i4.to λo z=>up _ o ne.symm z) (up _ _ (_ct el) t4) λc o n1 n2 z=>up c o n1 ((λc o n1 n2 z=>by rw[<- hg4];exact _g _ (zI s3 n1 (zI s2 n1 (zI s1 n2 z)))) c o n1 n2 z)))))
theorem zry{k:Nat} (hh:nw!)(he:IsEnum I! e it k bx)(h1:Sit b I! it l k)(c1:hT! b l xs)(ex:xs[k]? = a!) (q:∀h',Heap.ExtBut it I! h'->Q a! {s with heap:=h'}):gn! P w A (pf! (u! e)) Q E s:=by
 have hT:pi! (u! e) gH!:=ca! he;refine _a (_db (_ag hT _bu (_av _bu hT F.entry_enumerate_next ?_ (F.args_enumerate_next_1 _))));show wpAny _ _ (field (u! e) 2 >>= _) _ _ _;refine _a (jL! he (_a (zh9 hh h1 c1 ex λh' x d9 hx'=>?_)));obtain⟨o,ho,hc⟩:=hx';exact _a (wpAny_isInstance (cy! ho hc) isSubtype_stop (_m (q _ d9)))
end
theorem zli(b:Bool)(l:Addr)(xs:cD!): Meets (Builtin.«enumerate.__new__» (dN! [av! gH!,eD!])) (λ_ R s=>hT! b l xs/\R (l3! (u! (eg! (ms! b l)))) {s with heap:=da! (ms! b l) ({cls:=av! gH!,data:=eJ! #[aa!,.bool t!,fZ!,rawInt 0,aa!,aa!]})}):= rj! (by
  obtain⟨hp,g,d,tk,os⟩:=s;obtain⟨c1,h⟩:=h;have bP:=sub_enumerate;have q1 := c1;obtain⟨o,hl⟩:∃o,hp.get? l=b! o:=by cases b with
   | true=>obtain⟨o,e,_⟩:=c1;exact dv! o | false=>obtain⟨o,e,_⟩:=c1;exact dv! o
  wp_walk using _au hl;refine wpAny_stack_any λst=>_m ?_;split
  ·rename_i c _ _ _ _ _;cases (c==Value.type gH!)
   ·wp_walk using _au hl,z8S q1;exact aB! _ h
   ·wp_walk using _au hl,z8S q1;exact aB! _ h
  ·wp_walk using _au hl,z8S q1;exact aB! _ h)
section
variable {P:Program}{w:World}{A:Around}{E:bX!}{s:Shared}
theorem znY(c1:hT! b l xs) (h:∀h',IsEnum h' dU! ar! 0 aa!->Sit b h' ar! l 0->(∀c o,dp! c->dC! c)->Q (u! dU!) {s with heap:=h'}): gn! P w A (call (av! gH!) [eD!]) Q E s:=by
 refine callType_new F.called_enumerate (by decide) (F.typeCall_enumerate_1 _) (F.newCall_enumerate_1 _) (λobj=>F.args_object_init_2 obj _) F.entry_enumerate_new (zli b l xs) ⟨c1,?_⟩;have z1:eg! (ms! b l)=dU!:=_aI ..;have g2:=_w (ms! b l) (o:={cls:=av! gH!,data:=eJ! #[aa!,.bool t!,fZ!,rawInt 0,aa!,aa!]}) rfl;have g1:e5! (da! (ms! b l) ({cls:=av! gH!,data:=eJ! #[aa!,.bool t!,fZ!,rawInt 0,aa!,aa!]})) ar! (itO b l):=_g _ (_w _ (z63 b l));rw[z1]at g2;rw[z1];exact⟨ca! g2,h _ g2 (zby g1) λc o e=>_g _ (_g _ e)⟩
end
end Zz
namespace L2
open Zz
def Ite(K:W.Frag)(b:Bool)(l:Addr):It:= ⟨λi H=>∃xs x,Sq b K H l xs/\am! xs x, λi H v H'=>∃T x,H T=a!/\v=u! T/\H'=hS! T (n! [Y!,x])/\∀xs,Sq b K H l xs->am! xs x, λi H=>∃xs,Sq b K H l xs/\w!<=i⟩
theorem zic{P:Program}{w:World}{K:W.Frag}{bv:aD!}{kt:Nat}{tp:Pos}{b:Bool}{e it l:Addr}(ne:e≠it): zkf P w K (iV! bv tp) (Ite K b l) [e,it] e (λi h=>(∃bx,IsEnum h e it (ab! i) bx)/\Sit b h it l i) where
 mem:=by simp
 obj:=λi h ⟨⟨bx,he⟩,h1⟩ c hc=>by
  rcases (by simpa using hc) with rfl | rfl;·exact bM! he (λv z=>by simp at z)
  ·exact h1.ob
 keep:=λi h h' ⟨⟨bx,he⟩,h1⟩ k=>⟨⟨bx,k e (by simp) _ he⟩,h1.to λo z=>k it (by simp) o z⟩;item:=by
  intro X hP hw hK hc i ae s O H E I hf ⟨⟨bx,he⟩,h1⟩ ⟨xs,x,qx,ex⟩;subst hP hw hK;obtain⟨ix,rx,cx⟩:=I.sq qx;obtain⟨u,hu,ru⟩:=rx.get ex;refine zor he h1 cx (by simpa using hu) ne λg a1 a2 a3 hk=>aB! _ (wpAny_letOwnedTupleGo_enum a1 λg2 e2 s2=>?_);obtain⟨f0,f1,f2,f3,f4,f5⟩:=hf e (by simp);have new := I.fpOk ak! (mt! _);have el := _D (_q he);refine⟨fZ!,hS! ar! (n! [Y!,x]),((I.turnedL (t':=fU!+1) (λc o n z=>hk c o (λt=>n (by simp[t])) (λt=>n (by simp[t])) z) hf).turned (t':=fU!+1) (λc o n z=>zI s2 n z) f0 f1 f3 f4 f5).track new ⟨?_,[bx! i fU!,u],eI! (cf! _) (eI! ru cB!),⟨_,(zI s2 el.symm a3),rfl,rfl,_,rfl⟩⟩,rfl,⟨_,x,new.1,rfl,rfl,λzs qz=>?_⟩,⟨gy! (by simpa using e2),a2.to λo z=>zI s2 ne.symm z⟩,λc hc=>?_⟩;·show 2<=aS!;decide
  ·rw[I.sq_inj qz qx];exact ex
  ·rw[zM (by
    rcases (by simpa using hc) with rfl | rfl;·exact el
    ·exact _D h1.lt)];exact (hf c hc).1
 done:=by
  intro X hP hw hK hc i ae s O H E I hf ⟨⟨bx,he⟩,h1⟩ ⟨xs,qx,hl⟩;subst hP hw hK;obtain⟨ix,rx,cx⟩:=I.sq qx;have lx:=rx.length;obtain⟨f0,f1,f2,f3,f4,f5⟩:=hf it (by simp);exact zry hl! he h1 cx (by simp;lia) λg hk=>fc! (I.turned (λc o n z=>hk c o n z) f0 f1 f3 f4 f5)
 self:=λ_ _ _ _ _ ⟨⟨_,he⟩,_⟩ h=>wpAny_pyIter_enum he h
theorem znt{bv:aD!}{kt:Nat}{tp:Pos} {p pos:Pos}(hg:it! gH!)(hm:dM! gH!)(ha:PA X [a] ta)(hs:y! (au! [a]=d1! a::au! []))(au:ea! [] (·.1)): PI X (iV! bv tp) (do! gH! p [a]) (λO H R=>ta O H λvs H1=>∃l b,vs=[eD!]/\(∃xs,Sq b X.K H1 l xs)/\R (Ite X.K b l) H1):=by
 refine λae s O H R I h=>_as (z2b I hg hm (u:=av! gH!) (by decide +kernel) (_ab (thn (ha pos ae s O H _ I h) λus s1 ⟨vs,H1,I1,r1,q1⟩=>?_) hs au) (by decide) (by decide));obtain⟨l,b,rfl,⟨xs,qx⟩,q⟩:=q1;obtain⟨u,rfl,ru⟩:=vals1 r1;cases ru;obtain⟨ix,rx,cx⟩:=I1.sq qx;refine znY cx λg he h1 hk=>(wpAny_pyIter_enum he ⟨_,_,_,_,H1,rfl,n5! hk,zic (Nat.succ_ne_self _),⟨gy! he,h1⟩,λc hc=>?_,q⟩);have cA:iH!<=c:=by
  rcases (by simpa using hc) with rfl | rfl;·exact _c1 _
  ·exact ak!
 exact rT! cA cA
theorem z6Z(ns:h!):∀n,n<=fA!->preSum (λi=>iU! i) n=(ns.take n).sum
 | 0,_=>by simp[preSum] | n+1,h=>by
  rw[preSum,z6Z ns n (by lia),<- List.take_append_getElem ((by lia)),List.sum_append,(show iU! n=ns[n] from by simp[_b (show n<fA! by lia)])];simp only[_aD,List.sum_nil,Int.add_zero]
theorem ziW(hc:bW!):lX! X "sum" (∃(b:Bool)(p:Addr)(ns:List Int),xs=[cn!]/\Sq b X.K H p hQ!/\Q (c! ns.sum) H):=by
 intro ae s O H xs us Q I r h;obtain⟨b,p,ns,rfl,hq,q⟩:=h;obtain⟨u,rfl,ru⟩:=k2!;cases ru;obtain⟨af,rv,co⟩:=I.sq hq;refine call_sum_walkG (sw! hl! co ?_);subst e2;refine⟨_,_,_,_,_,_,(λi=>iU! i),rfl,W,st,bd,(λi v e=>let ⟨t,e1,_⟩:=z7T rv e;aw! t e1),λh' tk t' hk=>?_⟩;rw[(show iI!=fA! from by simp[(by have:=rv.length;simp at this;omega)]),z6Z ns _ ak!,List.take_length];exact⟨c! ns.sum,H,mc! (bx h' hk),cf! t',q⟩
end L2
namespace Dd
open L2
section
variable {X:Cx}{E:XK}{e a b c tg iter az:Expr}{es:aD!}{pos:Pos}{CX:CXT}
theorem ztX{mg:Gm}{H:Hp}{Y:bi!}{d d' d2:D}{vs:aM!}(h:oM! [d,d',d2]):∃v v' v2,vs=[v,v',v2]/\fN!/\iZ! d' v'/\iZ! d2 v2:=by
 obtain⟨v,r,rfl,h1,v',r',rfl,h2,v2,r2,rfl,h3,rfl⟩:=h;exact⟨v,v',v2,rfl,h1,h2,h3⟩
noncomputable def zvR(i j k:Nat)(f:FA):FS:=b7! ay! (iJ! (match ds with | [x,y,z]=>g6! (gX! (gX! (ij! fk!) j y) k z) | _=>.no))
def zn1:D!->bm!
 | [d],s=>match A! (zW s d) intsOf with | some ns=>x! ns.sum | none=>.no
 | _,_=>.no
theorem zqS(hc:bW!):∃r,jy! X "sum" r/\z2v X E r zn1:=j4! (ziW hc) (by
 unfold zn1 at h;split at h
 ·split at h
  ·rename_i ns e;obtain⟨xs,e1,e2⟩:=_bg.mp e;have:=z0M e2;subst this;obtain⟨v,rfl,dn⟩:=lc!;obtain⟨a,ws,rfl,q1,q2⟩:=jK r e1 dn;cases z0O q2;obtain⟨b,q⟩:=zew q1;exact⟨b,a,ns,rfl,q,eW! yK⟩
  ·exact h.elim
 ·exact h.elim)
def z2E:Nat->D!->D!
 | _,[]=>[] | i,x::xs=>n! [Y!,x]::z2E (i+1) xs
theorem jF:∀(i:Nat)(xs:List D),v! (z2E i xs)=w!
 | _,[]=>rfl | i,x::xs=>by simp[z2E,jF (i+1) xs]
theorem zaq:∀{i k:Nat}{xs:List D}{d:D},G! (z2E i xs) k d->∃x,G! xs k x/\d=n! [c! (ab! (i+k)),x]
 | _,_,[],_,h=>by cases h | i,0,x::xs,d,h=>by simp[z2E]at h;exact⟨x,by rfl,by simp[h]⟩ | i,k+1,x::xs,d,h=>by
  simp only[z2E,_d]at h;obtain⟨y,h1,h2⟩:=zaq h;refine⟨y,by exact h1,?_⟩;rw[h2,show i+1+k=i+(k+1) by lia]
noncomputable def z2G(f:FA):FI:=b7! ay! (iJ! (match ds with
 | [x]=>match z94 s1 x with
  | some p=>P! (z2E 0 p.1,p.2) | none=>.no
 | _=>.no))
theorem zcw{p tp:Pos}{bv:aD!}{kt:Nat} (hg:it! gH!)(hm:dM! gH!)(ha:RA X E [a] f)(hs:y! (au! [a]=d1! a::au! []))(au:ea! [] (·.1)): RI X E (iV! bv tp) (do! gH! p [a]) (z2G f):= z8G (znt hg hm ha hs au) λO H Q ⟨Y,ρ,s,r,en,h⟩=>by
  refine⟨Y,ρ,s,r,en,de! h (λvs H1 ⟨Y1,s1,ds,stp,dn,h1⟩=>?_)⟩;split at h1
  ·split at h1
   ·rename_i p ex;obtain⟨v,rfl,d1⟩:=z2l dn;obtain⟨ip,b1,a1,rfl,k1⟩:=zdz dH! ex d1;obtain⟨w1,q1,_⟩:=k1 H1 Y1 s1 (.refl dH!) ip;refine gW! a1 b1 (aw! w1 q1) (oI! (λH2 Y2 s2 ag og i=>⟨hI! ?_,λhl=>?_⟩))
    ·obtain⟨x,e1,rfl⟩:=zaq hd;obtain⟨w1,q1,n1⟩:=k1 H2 Y2 s2 ag og;obtain⟨u1,g1,m1⟩:=n1.get e1;refine⟨⟨w1,u1,q1,g1⟩,λz H' ⟨T,p,hT,ez,eH,hp⟩=>?_⟩;subst ez eH;have e3:=hp w1 q1;rw[g1]at e3;cases e3;have cC:=vN.lay (o:=n! [Y!,u1]) ag.rep hT (by intro _ z;cases z);refine aN! Y2 cC ?_;simp only[_aq];exact gW! T [Y!,u1] yB ((pk! yK (yp.one m1)).mono cC)
    ·obtain⟨w1,q1,n1⟩:=k1 H2 Y2 s2 ag og;refine aN! w1 q1 ?_;rw[n1.length];simpa only [jF] using hl
   ·exact h1.elim
  ·exact h1.elim
end
section
variable (i j k:Nat)(ρ:Ev)(s:Sto)(ar:FA)
@[simp] theorem zoi:z2G ar ρ s=A! (ar ρ s) (iJ! (match ds with
 | [x]=>match z94 s1 x with
  | some p=>P! (z2E 0 p.1,p.2) | none=>.no
 | _=>.no)):=U!
end
end Dd
namespace L2
noncomputable def znz(n:Nat):aM!:=aP! n (λk=>V.int (ab! k))
theorem z6A:∀{xs:List V}{us:List Value},na!=w!->(∀(j:Nat) u,G! us j u->∃x,G! xs j x/\wV x u)->i5!
 | [],[],_,_=>cB! | [],_::_,h,_=>by cases h | _::_,[],h,_=>by cases h | x::xs,u::us,h,k=>by
  obtain⟨y,e,r⟩:=k 0 u (by rfl);have:y=x:=by simpa using e.symm
  subst this;exact eI! r (z6A (by simpa using h) λj v hv=>k (j+1) v (by exact hv))
theorem zck{p p2 pos bJ:Pos} (hc:bW!) (hg:it! ef!) (hm:dM! ef!) (cL:o2!) (cn:dM! ft!) (ha:PA X [a] ta) (bT:y! (au! [a]=[d1! a])) (hs:y! (au! [fz! (fI! ft!) [a] [] bJ]=d1! (fz! (fI! ft!) [a] [] bJ)::au! [])) (au:ea! [] (·.1)): V! (do! ef! p [fz! (fI! ft!) [a] [] bJ]) (gL! (ta O H λvs H1=>∃j:Int,vs=[c! j]/\0<=j/\dn! j/\∀l,H1 l=a!->Q eD! (upd H1 l (W! (znz kB!))))):=by
 intro ae s O H Q I h;refine _as (z2b I hg hm (u:=dd!) (by decide +kernel) (_ab ?_ hs au) (by decide) (by decide));refine _cD (_as (z2b I cL cn boot_range (_ab (thn (ha bJ ae s O H _ I h) λus s1 ⟨vs,H1,I1,r1,q1⟩=>?_) bT rfl) (by decide) (by decide)));obtain⟨j,e,q0,q2,q⟩:=q1;subst e;obtain⟨u,rfl,⟨t,rfl⟩⟩:=vals1 r1;refine call_range_1 (_cV ?_);have bi:Builtin.Range.rangeSize 0 j 1=ez! kB!:=by rw[rangeSize_one];split<;>lia
 refine call_list_range hl! (IsRange.new ..) (small_one (by lia) (by lia) (by lia) (by lia)) bi (by lia) λh' tk acc c' hk hS bM=>?_;have I2:cQ! H1 ({s1 with heap:=qh! ({cls:=lP!,data:=eJ! #[bx! 0 s1.toks,bS! j,bx! 1 (s1.toks+1)]}),toks:=s1.toks+1+1}):=n5! (lW! _ e);have hl:v! (znz kB!)=kB!:=by simp[znz]
 refine⟨u! _,upd H1 _ (W! (znz kB!)),I2.laid hk ak! ?_,rfl,q _ (I2.hok.fresh ak!)⟩;exact⟨by rw[hl];exact _Z (show dn! kB! by lia) (by decide),acc.toList,c',(z6A (by simp[bM.1,hl]) λi v hv=>by
  obtain⟨ny,rfl⟩:=bM.2 i v (by simpa using hv);have hi:i<kB!:=by
   have:=cV! hv;simp[bM.1]at this;lia
  exact⟨Y!,by simp[znz,hi],⟨ny,by simp⟩⟩),by exact hS⟩
end L2
namespace Dd
open L2
section
variable {X:Cx}{E:XK}{a:Expr}{pos:Pos}
theorem zks(n:Nat):gw! H Y (yt n) (znz n):=by
 unfold yt znz;induction iO! with
 | nil=>exact yp.nil | cons k ks ih=>exact pk! yK ih
noncomputable def eLR(f:FA):FE:=b7! ay! (iJ! (match ds with
 | [.int j]=>ac! (0<=j/\dn! j) (P! (W! sb!)) | _=>.no))
theorem z7r{p p2 bJ:Pos} (hc:bW!)(hg:it! ef!)(hm:dM! ef!)(cL:o2!)(cn:dM! ft!)(ha:RA X E [a] f) (bT:y! (au! [a]=[d1! a])) (hs:y! (au! [fz! (fI! ft!) [a] [] bJ]=d1! (fz! (fI! ft!) [a] [] bJ)::au! []))(au:ea! [] (·.1)): X! (do! ef! p [fz! (fI! ft!) [a] [] bJ]) (eLR f):= yq (zck hc hg hm cL cn ha bT hs au).freeze λO H Q ⟨Y,ρ,s,r,en,h⟩=>by
  refine⟨Y,ρ,s,r,en,de! h (λvs H1 ⟨Y1,s1,ds,stp,dn,h1⟩=>?_)⟩;split at h1
  ·rename_i j;split at h1
   ·rename_i hj;obtain⟨v,rfl,d1⟩:=z2l dn;cases yx d1;exact⟨j,rfl,hj.1,hj.2,z0L dH! h1 (zks _)⟩
   ·exact h1.elim
  ·exact h1.elim
@[simp] theorem zpv(f:FA)(ρ:Ev)(s:Sto):eLR f ρ s=j8! (iJ! (match ds with
 | [.int j]=>ac! (0<=j/\dn! j) (P! (W! sb!)) | _=>.no)):=U!
end
noncomputable def vw(ft:FT)(fb:FS):Nat->Ev->f4! Fl
 | 0,_,_=>.no | k+1,ρ,s=>A! (ft ρ s) (λb s1=>aF! b (A! gb! (λfl s2=>match fl with
   | .nx ρ'=>vw ft fb k ρ' s2 | .ct ρ'=>vw ft fb k ρ' s2 | .bk ρ'=>K! ρ' s2 | .rt d=>bp! (.rt d))) (g6! ρ))
theorem z4c: ∀{k:Nat}{ρ:Ev}{s:Sto},vw ft fb k ρ s≠.no->vw ft fb (k+1) ρ s=vw ft fb k ρ s
 | 0,ρ,s,h=>gt! h | k+1,ρ,s,h=>by
  rw[vw]at h ⊢;conv=>rhs;rw[vw]
  cases e:ft ρ s with
  | no=>rfl | ex c t=>rfl | ok b s1=>
   rw[e]at h;simp only[Rb]at h ⊢;cases b with
   | false=>rfl | true=> cases e2:gb! with
    | no=>rfl | ex c t=>rfl | ok fl s2=>
     rw[e2]at h;cases fl with
     | nx ρ'=>exact z4c h | ct ρ'=>exact z4c h | bk ρ'=>rfl | rt d=>rfl
theorem zeD(h:vw ft fb k ρ s≠.no)(hm:k<=m):vw ft fb m ρ s=vw ft fb k ρ s:=by induction hm with
 | refl=>rfl | step _ ih=>rw[z4c (by rw[ih];exact h),ih]
open Classical in
def z29(ft:FT)(fb:FS):FS:=eO! (if h:∃k,vw ft fb k ρ s≠.no then vw ft fb h.choose ρ s else .no)
theorem z3m(h:vw ft fb k ρ s=r)(hr:r≠.no):z29 ft fb ρ s=r:=by
 subst h;have hx:∃k,vw ft fb k ρ s≠.no:=aw! k hr;unfold z29;rw[qC! hx];rcases Nat.le_total k hx.choose with z | z;·exact zeD hr z
 ·exact (zeD hx.choose_spec z).symm
theorem z6T(hp:PassesOwn (oQ! X.w) X.A aT! X.xe)(hc:RT X E c ft)(hb:RSs X E dF! fb):RS X E (.While c dF! [] pos) (z29 ft fb):= z0z (zl6 hp hc hb) λD O H ⟨Y,ρ,s,r,en,h⟩=>by
  unfold z29 at h;split at h
  ·refine⟨λm O H=>∃Y ρ s,Rep C! H Y s/\rn! C! H Y O/\i2! C! H Y (FlD C!) (vw ft fb m ρ s) (zhZ D),⟨_,Y,ρ,s,r,en,h⟩,?_⟩;rintro m O H ⟨Y,ρ,s,r,en,h⟩;cases m with
   | zero=>exact h.elim | succ m=>
    refine⟨Y,ρ,s,r,en,de! h (λb H1 ⟨Y1,s1,b',stp,eb,h1⟩=>?_)⟩;cases (eb);cases b with
    | false=> exact okR.here (b:=nn! O) h1 stp.rep if! | true=>
     refine⟨λO' H'=>∃Y ρ s,Rep C! H' Y s/\rn! C! H' Y O'/\i2! C! H' Y (FlD C!) (vw ft fb m ρ s) (zhZ D),λO' H' q=>⟨m,_cb _,q⟩,Y1,ρ,s1,dH!,if!,de! h1 (λfv H2 ⟨Y2,s2,fl,ag,dn,h2⟩=>?_)⟩;cases fl with
     | nx ρ'=> cases fv with
      | nx O'=>exact⟨Y2,ρ',s2,jp!,dn,h2⟩ | _=>exact b5! dn
     | ct ρ'=> cases fv with
      | ct O'=>exact⟨Y2,ρ',s2,jp!,dn,h2⟩ | _=>exact b5! dn
     | bk ρ'=> cases fv with
      | bk O'=>exact okR.here (b:=nn! O') h2 ag.rep dn | _=>exact b5! dn
     | rt d=> cases fv with
      | rt v=>exact okR.here (Q:=zhZ D) h2 ag.rep dn | _=>exact b5! dn
  ·exact h.elim
end Dd
namespace PySem
open PySem.AutoSeq1 (wpAny_loadPart')
open MeetsSeq MeetsSeq2 SeqAt
theorem zfD(f:Nat->β->Sem (ForInStep β))(I:Nat->β->ey!)(Q:β->ey!)(n:Nat) (turn:∀i b s,i<n->I i b s->fJ! M A (f i b) (λr s'=>match r with | .yield b'=>I (i+1) b' s' | .done b'=>Q b' s') E) (fin:∀b s,I n b s->Q b s)(b:β)(h:I 0 b s):fJ! M A (forIn ([0:n]:Std.Legacy.Range) b f) Q E:=by
 rw[Std.Legacy.Range.forIn_eq_forIn_range'];refine wpAny_forIn_list f (λkH b s'=>∃i,kH=oj! i (n-i)/\i<=n/\I i b s') _ ?_ ?_ _ _ ⟨0,by simp,g8!,h⟩
 ·rintro x kH b s' ⟨i,hr,hi,hI⟩;have bF:i<n:=by
   rcases Nat.lt_or_ge i n with h | h;·exact h
   ·rw[Nat.sub_eq_zero_of_le h]at hr;simp at hr
  obtain⟨rfl,fC⟩:x=i/\kH=oj! (i+1) (n-(i+1)):=by
   rw[(show n-i=(n-(i+1))+1 from by omega)]at hr;injection hr with h1 h2;exact aw! h1 h2
  refine _aa (turn x b s' bF hI) (λr s2 hr=>?_) λ_ _ h'=>h';cases r with
  | done b'=>exact hr | yield b'=>exact⟨x+1,fC,bF,hr⟩
 ·rintro b s' ⟨i,hr,hi,hI⟩;have:i=n:=by
   have:=_aM List.length hr;simp at this;omega
  subst this;exact fin _ _ hI
theorem z8f(l:Addr) (items:cD!) (n:Nat) (dd:oR!) (sl:Array aL!) (x:Value) (e:eG! dX!) (j:Nat) (hj:j<hH!) (pQ:e items[j]=d!) (gy:∀m (hm:m<items.size),m<j->e items[m]=t!): Meets (Builtin.«tuple.index» (dN! [eD!,x])) (λA R s=>fY! l ({cls:=dK!,dict:=dd,data:=.seq hf! n,slots:=sl})/\(∀y,y∈hf!->EqAt A.in1 s y x (e y))/\R (l3! (bx! j fU!)) {s with toks:=fU!+1}):= rj! (by
  obtain⟨hp,g,d,tk,os⟩:=s;obtain⟨hl,he,h⟩:=h;wp_walk using _au hl,zfD _ (λi b s'=>b.1=a!/\s'=e0! hp g d tk/\i<=j) _ _;case turn=>
   rintro i ⟨b1,b2⟩ s' hi ⟨hb,rfl,aJ⟩;rw[(Nat.min_self _)]at hi;rw[Array.getElem?_eq_getElem hi];refine _a (he _ (Array.getElem_mem hi) m9! w _ _ ?_);rcases _aQ aJ with lt | rfl
   ·wp_walk;exact aB! rfl lt
   ·wp_walk;exact aB! _ h
  case fin=> omega
  case h=>exact aB! rfl g8!)
end PySem
namespace L2
section
variable {X:Cx}{o e:Expr}{to:TE}{t:TA}{name:Str}{ap ak:Pos}{id:String}{r:V->aM!->Hp->eE!}
theorem zpm(slot:Slot dr! iG! id)(gS:typeOf (.builtin id)=dY! (av! "method_descriptor"))(hm:MtR X id r)(ho:V! o to)(ha:PA X [e] t) (am:y! (lL! o iG! gC!=gC!)) (aH:di! (ht! (hO! ak [e]) (! x.1)&&ht! (nF! ak []) (gl! x.1) && a5! (v! [e]+v! ([]:gU!)+(nv! ([]:gU!) 0 1)<30))) (ai:di! pY!)(hs:y! (au! [e]=dW!::au! []))(aw:y! ((hO! ak []).any (·.1)=t!)): V! (fz! (mB! o iG!) [e] [] ak) (gL! (to O H (hE! ((∃p vs,x=cn!/\H1 p=b! (n! vs))/\t O H1 λxs H2=>r x xs H2 Q)))):=by
 refine iF! (_bZ am aH ai rfl (thn (ho ae s O H _ I h) λv s1 ⟨x,H1,I1,r1,ty,q1⟩=>?_));obtain⟨p,vs,rfl,hp⟩:=ty;cases r1;obtain⟨_,af,_,ob,e1,c1,d1,n,w1⟩:=I1.hok p _ hp;refine⟨dr!,id,PySem.F.plainAttrs_tuple,slot,gS,aN! ob e1 c1,λa e=>?_,?_⟩
 ·cases e;exact aN! ob e1 d1
 have hA:=ha ak ae s1 O H1 _ I1 q1;rw[hs]at hA ⊢;exact _b0 (by show (t!||(hO! ak []).any (·.1))=t!;rw[aw]<;>rfl) (_bx (thn hA λus s2 ⟨vs,H2,I2,r2,q2⟩=>hm ae s2 O H2 cn! vs _ us Q I2 rfl r2 q2))
theorem z4v:∀{ns:List Int}{af:List Value},xw hQ! af->rB! af
 | [],_,.nil=>cB! | n::ns,_,.cons r rs=>by
  obtain⟨t,rfl⟩:=r;exact .cons n t (z4v rs)
def zuu:V->aM!->Hp->eE!:=λx vs H Q=>∃(p:Addr)(ns:List Int)(k:Int),x=cn!/\vs=[c! k]/\H p=b! (n! hQ!)/\k∈ns/\Q (c! (pX!:Nat)) H
theorem zdW:MtR X "tuple.index" zuu:=by
 intro ae s O H x vs v us Q I rx rv h;obtain⟨p,ns,k,rfl,rfl,hp,hk,q⟩:=h;cases rx;obtain⟨u,rfl,⟨t,rfl⟩⟩:=vals1 rv;obtain⟨_,af,r,ob,e1,c1,d1,n,w1⟩:=gY! p hp;have hi:=z4v r;have ao:=hi.length;have hj := List.idxOf_lt_length_iff.mpr hk;obtain⟨cls,dd,data,sl⟩:=ob;simp only at c1 d1 w1;subst c1 d1 w1;refine _bj PySem.F.slot_tuple_index (ca! e1) PySem.F.entry_tuple_index (PySem.F.args_tuple_index_2 _ _) (z8f p fu! n _ sl (bS! k) (isInt k) pX! (by simpa[ao] using hj) ?_ ?_) ⟨e1,cs! ((eq_isInt k t hi y (by simpa using hy)).at _ _),?_⟩
 ·show isInt k af[pX!]=d!;rw[isInt_at k hi _ (by omega) hj];simpa using _cI hj
 ·intro j nA bF;show isInt k af[j]=t!;rw[isInt_at k hi j (by simpa using nA) (by omega)];exact ne_of_lt_idxOf bF _
 ·exact⟨c! (pX!:Nat),H,mc! (gJ! e),cf! fU!,q⟩
end
end L2
namespace Dd
open L2
section
variable {X:Cx}{E:XK}{o e:Expr}{pos:Pos}
noncomputable def zmu(fo fv:FE):FE:=b7! (fo ρ s) (λo s1=>match o with
 | .tup ds=>A! (fv ρ s1) (λd s2=>match qy! ds,d with
  | some ns,.int k=>ac! (k∈ns) (bp! (c! (pX!:Nat))) | _,_=>.no)
 | _=>.no)
theorem zdU{ap:Pos} (ho:X! o fo)(hv:fq! fv)(am:y! (lL! o "index" gC!=gC!)) (aH:di! (ht! (hO! pos [e]) (! x.1)&&ht! (nF! pos []) (gl! x.1) && a5! (v! [e]+v! ([]:gU!)+(nv! ([]:gU!) 0 1)<30))) (ai:di! (sp! n4!))(hs:y! (au! [e]=dW!::au! []))(aw:ea! [] (·.1)): X! (fz! (mB! o "index") [e] [] pos) (zmu fo fv):= yq (zpm PySem.F.slot_tuple_index PySem.F.type_tuple_index zdW ho (va hv z1b hs) am aH ai hs aw) λO H Q ⟨Y,ρ,s,r,en,h⟩=>by
  refine⟨Y,ρ,s,r,en,de! h (λov H1 ⟨Y1,s1,od,stp,dn,h1⟩=>?_)⟩;cases od with
  | tup ds=>
   refine aw! (by
    obtain⟨a,vs,rfl,e1,_⟩:=dn;exact fH! a vs e1) ⟨Y1,ρ,s1,dH!,if!,de! h1 (λv H2 ⟨Y2,s2,d,ag,ax,h2⟩=>?_)⟩;split at h2
   ·rename_i ns k ei;split at h2
    ·rename_i hk;obtain⟨a,vs,rfl,e1,e2⟩:=lS!;rw[z0M ei]at e2;cases z0O e2;cases yx ax;exact⟨a,ns,k,rfl,rfl,e1,hk,oe! h2 jp! yK⟩
    ·exact h2.elim
   ·exact h2.elim | _=>exact h1.elim
@[simp] theorem zpj (fo fv:FE)(ρ:Ev)(s:Sto):zmu fo fv ρ s=A! (fo ρ s) (λo s1=>match o with
 | .tup ds=>A! (fv ρ s1) (λd s2=>match qy! ds,d with
  | some ns,.int k=>ac! (k∈ns) (bp! (c! (pX!:Nat))) | _,_=>.no)
 | _=>.no):=U!
end
def zq5(P:Program)(w:World)(K:W.Frag)(mg:Str->aL!)(x:Str)(tb:mX!):k!:= ∃a o es ep,mg x=a0! a/\(a==sysModules)=t!/\oU!=b! o/\o.ExactDict/\h5!=.dict es ep/\PySem.KeysOf (wo P w) es/\ (∀k y,mA!=b! y->∃f,pn! (wo P w).is es (T! k)=a0! f/\mg y=a0! f)/\∀k,mA!=a!->pn! (wo P w).is es (T! k)=a!
theorem zbd(r:wV (aq! k) u):(wo P w).is (T! k) u=d!:=by
 obtain⟨t,e⟩:=(r);subst e;exact z7x k t
section
variable {X:Cx}{E:XK}{e a b c:Expr}{es:aD!}{pos:Pos}{CX:CXT}
theorem zeg{O:L2.St} (I:L!)(hk:X.K.lookup d=b! o)(hx:o.ExactDict)(hd:h5!=.dict en ep)(ks:PySem.KeysOf (wo aO! X.w) en): s.heap.MapOf (wo aO! X.w) d (λk=>pn! (wo aO! X.w).is en k):=⟨o,en,ep,I.kIn d o hk,hx,hd,ks,λ_=>rfl⟩
noncomputable def ztH(tb:mX!)(f:FE):FE:=eO! (eb! (match d with
 | .str k=>match mA! with | some y=>P! (.fn y) | none=>.no
 | _=>.no))
theorem zsz(hT:zq5 aO! X.w X.K fw! x tb)(hg:e6!)(he:fq! f)(hs:zdG e)(aG:cm! (x==cP!)): X! (my! (fe! p) e) (ztH tb f):=by
 obtain⟨d,o,en,ep,hm,li,hk,hx,hd,ks,h1,h2⟩:=hT;refine yq (zq6 (r:=λv y H Q=>v=u! d/\∃k g,y=aq! k/\pn! (wo aO! X.w).is en (T! k)=a0! g/\Q (u! g) H) ?_ (z7n hg hm (show wV (u! d) (u! d) from rfl) aG) he hs) λO H Q ⟨Y,ρ,s,r,en',h⟩=>?_
 ·intro bj slice ae s O H v y u u2 Q I rx ry h bT;obtain⟨rfl,k,g,rfl,hf,q⟩:=h;cases rx;have mp:=zeg I hk hx hd ks;exact _bY mp.typeIs PySem.F.slot_dict_getitem.lookup (wpAny_getItem_of (zbd ry) mp hf ⟨rfl,u! g,H,im!,rfl,q⟩) bT
 ·refine⟨Y,ρ,s,r,en',de! h (λv H1 ⟨Y1,s1,dd,stp,dn,q⟩=>?_)⟩;split at q
  ·rename_i k;split at q
   ·rename_i y hy;obtain⟨g,e1,e2⟩:=h1 k y hy;cases z0N dn;exact⟨rfl,k,g,rfl,e1,oe! q dH! (aB! g e2)⟩
   ·exact q.elim
  ·exact q.elim
noncomputable def zij(tb:mX!)(cb:Bool)(f:FE):FE:=eO! (eb! (match d with
 | .str k=>P! (.bl (xor cb (gl! mA!))) | _=>.no))
theorem zok(hT:zq5 aO! X.w X.K fw! x tb)(hg:e6!)(he:fq! f)(nB:y! (behindInMarks .In (fe! p)=t!))(aG:cm! (x==cP!)): X! (.Compare e [.In] [fe! p] pos) (zij tb t! f):=by
 obtain⟨d,o,en,ep,hm,li,hk,hx,hd,ks,h1,h2⟩:=hT;refine yq (ziy (r:=λy v H Q=>v=u! d/\∃k,y=aq! k/\Q (.bl (gl! (pn! (wo aO! X.w).is en (T! k)))) H) ?_ he (z7n hg hm (show wV (u! d) (u! d) from rfl) aG) nB) λO H Q ⟨Y,ρ,s,r,en',h⟩=>?_
 ·intro ae s O H y v u u2 Q I ry rx h;obtain⟨rfl,k,rfl,q⟩:=h;cases rx;exact wpAny_in_of (zbd ry) li (zeg I hk hx hd ks) (bo! (.bl _) H im! q)
 ·refine⟨Y,ρ,s,r,en',de! h (λv H1 ⟨Y1,s1,dd,stp,dn,q⟩=>?_)⟩;split at q
  ·rename_i k;cases z0N dn;exact fH! rfl k (oe! q dH! (by change V.bl _=V.bl _;simp[(show gl! (pn! (wo aO! X.w).is en (T! k))=gl! mA! from by cases z:mA! with
    | none=>rw[h2 k z];rfl | some y=>obtain⟨g,e1,_⟩:=h1 k y z;rw[e1];rfl)]))
  ·exact q.elim
noncomputable def zeu(i:Nat)(Ms:dL! Mir)(f:FA):FE:=eO! (match ρ[i]? with
 | some (some (.fn y))=>match pW! with
  | some M=>j8! (jo! (M xs s1)) | none=>.no
 | _=>.no)
theorem zoj(i:Nat) {p:Pos} {Ms:dL! Mir} (F:∀y M,pW!=b! M->Has aO! X.w X.K fw! fa! CX y n M) (hr:z2z n X.A) (iq:kV! X E) (ha:RA X E (e::es) f) (hN:y! (f5! x)) (hv:sA! x:=by first | exact a6! | exact Or.inr a6! | exact Or.inr bh!) (hd:cm! (x==cP!)) (bz:cm! (x==o! "__classdict__")) (he:y! (au! (e::es)=dW!::ir!)) (au:ea! es (·.1)):X! (do! x p (e::es)) (zeu i Ms f):=by
 intro ae s O H Q I ⟨Y,ρ,st,r,en,h⟩;unfold zeu at h;split at h
 ·rename_i y hy;split at h
  ·rename_i M hM;obtain⟨v,nC,dv⟩:=en.at_ i (.fn y) hy;obtain⟨g,rfl,cV⟩:=dv;obtain⟨fa,fd,ps,Fk,hb,hk,hm⟩:=F y M hM;have e0:g=fa:=by cases cV.symm.trans hm;rfl
   subst e0;refine _as (thn (zlX hN hv hd bz ae s O H (λv H1=>v=u! g/\H1=H) I (fH! (u! g) nC rfl)) λu s1 ⟨v,H1,I1,r1,e1,e2⟩=>?_);subst e1 e2;cases r1;exact _dz I1.ok.mod.kin hk (thn (ha pos ae s1 O H1 (λvs H2=>zjR C! M (vs++[]) H2 Q E) I1 (je (k:=nm! (M xs s1)) r en h _ λvs H2 Y2 s2 ds r2 aZ ax ag h3=>by
    rw[_aK];exact⟨Y2,s2,ds,r2,ax,h3⟩)) λus s2 ⟨vs,H2,I2,r2,q⟩=>aw! I2.kIn (zfp Fk hr hb cB! iq I2 r2 q)) he au
  ·exact h.elim
 ·exact h.elim
@[simp] theorem zuU(tb:mX!)(f:FE)(ρ:Ev)(s:Sto):ztH tb f ρ s=eb! (match d with
 | .str k=>match mA! with | some y=>P! (.fn y) | none=>.no
 | _=>.no):=U!
@[simp] theorem zrO(tb:mX!)(cb:Bool)(f:FE)(ρ:Ev)(s:Sto):zij tb cb f ρ s=eb! (match d with
 | .str k=>P! (.bl (xor cb (gl! mA!))) | _=>.no):=U!
@[simp] theorem zkE (i:Nat)(Ms:dL! Mir)(f:FA)(ρ:Ev)(s:Sto):zeu i Ms f ρ s=match ρ[i]? with
 | some (some (.fn y))=>match pW! with
  | some M=>j8! (jo! (M xs s1)) | none=>.no
 | _=>.no:=U!
end
theorem vN.cut(stp:vN mg H Y H1 Y1 s1):vN mg H Y H1 rW! (qD! qu!):=by
 have dk:DkS H1 Y1 H1 rW!:=λb hb ah e=>dv! (_S hb);refine⟨⟨by simp[stp.rep.len],stp.rep.nd.sublist (_cW _ _),λj ys h=>?_,λys h=>stp.rep.flat ys (_S h),λb h z=>stp.rep.own b (dk.own h) (_S z),dk.uq dH!⟩,?_,stp.keep,λc h1 h2=>stp.new c (_S h1) h2,stp.mt,stp.dom,λb h=>stp.ow b (dk.own h)⟩
 ·have hj:j<qu!:=by
   have:=cV! h;simp at this;lia
  rw[_am hj]at h ⊢;obtain⟨c,q1,q2⟩:=stp.rep.cell j ys h;exact⟨c,q1,q2.flatten (λ_ _ h _ _ _=>h) (stp.rep.flat _ (_x h)) rfl (_x q1) stp.rep.own (λ_ _ _ q=>q)⟩
 ·obtain⟨t,ht⟩:=stp.pre;exact⟨[],by rw[<- ht];simp⟩
theorem vN.frzC(stp:vN mg H Y H1 Y1 s1) (hl:qu!<=l)(hx:G! s1 l xs)(e1:G! Y1 l a)(ka:IsL H1 a):∃vs,H1 a=b! bQ!/\ ∀o,vN mg H Y (upd H1 a (d7! bQ!)) rW! (qD! qu!)/\rh! (upd H1 a (d7! bQ!)) rW! bH! ag!:=by
 obtain⟨vs,e2,e3⟩:=stp.rep.at_ hx e1 ka;refine⟨vs,e2,λo=>?_⟩;have an:a∉Y:=λz=>by
  obtain⟨j,hj,ej⟩:=gM! z;obtain⟨t,ht⟩:=stp.pre;have:=(_a1 stp.rep.nd).mp (bb! (n2! (by rw[<- ht,_F hj,_b hj,ej])).2 ((n2! e1).2).symm);lia
 have a0 := stp.new a (_x e1) an;have k:∀b u,H1 b=b! u->(∀vs,u≠bQ!)->(∀ah,u≠le!)->(∀ah,a1! ah->u≠g2!)->upd H1 a (d7! bQ!) b=b! u:=λb u h hn _ _=>by rw[zM (λz=>by subst z;rw[e2]at h;exact hn vs (_J h).symm)];exact h
 have dk:DkS H1 Y1 (upd H1 a (d7! bQ!)) rW!:=λb hb ah e=>by
  by_cases z:b=a;·subst z;rw[yB]at e;cases e
  ·rw[zM z]at e;exact dv! (_S hb)
 have mem:∀{j:Nat}{ys:List D},G! s1 j ys->dc! ys:=λe=>stp.rep.flat _ (_x e);refine aw! ⟨⟨by simp[stp.rep.len],stp.rep.nd.sublist (_cW _ _),λj ys h=>?_,λys h=>stp.rep.flat ys (_S h),λb h z=>stp.rep.own b (dk.own h) (_S z),dk.uq dH!⟩,?_,λb u h n g=>?_,λc h1 h2=>stp.new c (_S h1) h2,cr! ?_,λb h=>stp.dom b (zas h),λb h=>stp.ow b (dk.own h)⟩ ?_
 ·have hj:j<qu!:=by
   have:=cV! h;simp at this;lia
  rw[_am hj]at h ⊢;obtain⟨c,q1,q2⟩:=stp.rep.cell j ys h;refine⟨c,q1,q2.flatten k (mem h) (zM λz=>?_) (_x q1) stp.rep.own (λb vs hb q=>by rw[zM (show b≠a from λz=>hb (z ▸ _x e1))];exact q)⟩;subst z;have:=(_a1 stp.rep.nd).mp (bb! (n2! q1).2 ((n2! e1).2).symm);lia
 ·obtain⟨t,ht⟩:=stp.pre;exact⟨[],by rw[<- ht];simp⟩
 ·rw[zM (λz=>by subst z;rw[a0]at h;cases h)];exact stp.keep b u h n g
 ·have ne:b≠a:=λz=>an (z ▸ hb);rcases stp.mt b hb with⟨q1,q2⟩ | ⟨q1,q2,q3⟩;·exact z! ⟨q1,by rw[IsL,zM ne];exact q2⟩
  ·exact T! ⟨q1,by rw[IsC,zM ne];exact q2,λo u z=>by rw[zM ne];exact q3 o u z⟩
 ·exact⟨a,o,vs,rfl,yB,(λf h=>h.flatten k f) (mem hx) e3⟩
noncomputable def zpZ(n:Nat):R D->R D
 | .ok (.loc l) s1=>match s1[l]? with
  | some xs=>ac! (n<=l) (.ok bH! (qD! n)) | none=>.no
 | .ok _ _=>.no | .ex c s1=>.ex c s1 | .no=>.no
noncomputable def z5q(f:FE):FE:=eO! (zpZ ct! ay!)
section
variable {X:Cx}{E:XK}{e:Expr}
theorem ziK(h:fq! f):fq! (z5q f):= yq (PE.freeze h) λO H Q ⟨Y,ρ,s,r,en,h⟩=>by
  refine⟨Y,ρ,s,r,en,?_⟩;unfold z5q zpZ at h;split at h
  ·rename_i l s1 e1;rw[e1];split at h
   ·rename_i xs ex;split at h
    ·rename_i hl;intro v H1 Y1 stp dn;obtain⟨a,rfl,q1,ka⟩:=dn;obtain⟨vs,q2,q3⟩:=stp.frzC (by rw[r.len];exact hl) ex q1 ka;rw[<- r.len]at h;exact gW! a vs q2 (λo=>h _ _ _ (q3 o).1 (q3 o).2)
    ·exact h.elim
   ·exact h.elim
  ·exact h.elim
  ·rename_i e1;rw[e1];exact h
  ·exact h.elim
end
@[simp] theorem z3F(f:FE)(ρ:Ev)(s:Sto):z5q f ρ s=zpZ ct! ay!:=U!
@[simp] theorem zaG: zpZ ct! (g3! (s++[xs]))=i! bH!:=by simp[zpZ]
noncomputable def zfw(n:Nat):R D->R D
 | .ok (.loc l) s1=>al! (l<n) (.ok dP! (qD! n)) (P! dP!) | .ok d s1=>al! mQ! (.ok d (qD! n)) (P! d) | r=>r
noncomputable def z5F(M:Mir):Mir:=λds s=>zfw ct! (M ds s)
theorem zna(h:zjR mg (z5F M) vs H Q E):zjR mg M vs H Q E:=by
 obtain⟨Y,s,ds,r,dn,h⟩:=h;refine⟨Y,s,ds,r,dn,?_⟩;unfold z5F zfw at h;split at h
 ·rename_i l s1 e;rw[e];split at h
  ·rename_i hl;intro v H1 Y1 stp dv;rw[<- r.len]at h;refine h v H1 _ stp.cut ?_;obtain⟨a,rfl,e1,ka⟩:=dv;exact mH! a (by rw[_am (by rw[r.len];exact hl)];exact e1) ka
  ·exact h
 ·rename_i d s1 hn e;rw[e];split at h
  ·rename_i hf;intro v H1 Y1 stp dv;rw[<- r.len]at h;exact h v H1 _ stp.cut (dv.flatten (λ_ _ h _ _ _=>h) hf)
  ·exact h
 ·exact h
section
variable {P:Program}{w:World}{K:W.Frag}{mg:Str->aL!}{base:Heap}
theorem Has.tidy(h:Has P w K mg R! CX x n M):Has P w K mg R! CX x n (z5F M):=by
 obtain⟨f,fd,ps,F,r⟩:=h;exact⟨f,fd,ps,F.imp (qB! (zna h)),r⟩
end
@[simp] theorem z6V(M:Mir)(ds:D!)(s:Sto):z5F M ds s=zfw ct! (M ds s):=U!
@[simp] theorem z1A(h:mQ!):zfw n (P! d)=.ok d (qD! n):=by cases d<;>first | exact nomatch (h:t!=d!) | simp[zfw,h]
def zrG:D->D->bm!
 | x,.int k,s=>match l0! x with
  | some xs=>ac! (w!*dZ!<=cap/\-(2 ^ 62)<=k/\k<2 ^ 62) (bA! (hN! dZ! xs)) | none=>.no
 | _,_,_=>.no
theorem yp.flat_rep(h:hu!):∀k:Nat,gw! H Y (hN! k xs) (hN! k vs)
 | 0=>by simpa using yp.nil | k+1=>by
  rw[_aO,_aO,_bv,_bv];exact h.append (h.flat_rep k)
section
variable {X:Cx}{E:XK}
theorem ztS:∃r,nD! r/\c0! zrG:=by
 refine bM! zlK.freeze ?_;intro H Y s d1 d2 v1 v2 Q r h1 h2 h;unfold zrG at h;split at h
 ·rename_i k;cases yx h2;split at h
  ·rename_i xs hx;split at h
   ·rename_i hl;obtain⟨l,vs,e,q1,q2⟩:=yu r hx h1;exact⟨l,k,vs,e,rfl,q1,by lia,by lia,by rw[q2.length];exact z0A hl.1,z0L r h (q2.flat_rep _)⟩
   ·exact h.elim
  ·exact h.elim
 ·exact h.elim
end
section
variable {X:Cx}{E:XK}{e a b c:Expr}{es:aD!}{pos:Pos}{CX:CXT}
theorem zns(F:Has aO! X.w X.K fw! fa! CX x n M)(hr:z2z n X.A)(hx:kV! X E)(hg:e6!)(aG:cm! (x==cP!)):X! (do! x p []) (zg M zj):=by
 obtain⟨fa,fd,ps,F,hb,hk,hm⟩:=F;exact yq (zju F hr hg hm hk hb cB! hx aG) λO H Q ⟨Y,ρ,s,r,en,h⟩=>⟨Y,s,[],r,yp.nil,h⟩
end
section
variable {P:Program}{w:World}{K:W.Frag}{mg:Str->aL!}{base:Heap}{CX:CXT}{n:Nat}
noncomputable def zjc:ee! DictEntry->dL! dX!
 | []=>[] | e::es=>match e.key with
  | .str k _=>(k,e.val)::zjc es | _=>zjc es
theorem z3X{P:Program} {w:World} : ∀{es:List DictEntry},pn! (wo P w).is es.toArray (T! k)=n6! (zjc es) k
 | []=>by simp[findBy,zjc] | e::es=>by
  have ih:=z3X (P:=P) (w:=w) (k:=k) (es:=es);simp only[findBy,List.find?_toArray]at ih ⊢;rw[List.find?_cons];cases hk:e.key with
  | str y t=>
   simp only[zjc,hk,_V];by_cases z:k=y
   ·subst z;simp[zdi]
   ·rw[(show (wo P w).is (T! k) (.str y t)=t! from by
     rw[z8C];cases q:zdJ (T! k) (.str y t) with
     | false=>rfl | true=>
      rcases xf q with⟨i,u,h1,h2⟩ | ⟨x,u,h1,h2⟩;·cases h2
      ·cases h1;cases h2;exact gt! z),show (k==y)=t! from by simpa using z];exact ih | _=>
   simp only[zjc,hk,(show (wo P w).is (T! k) e.key=t! from by
    rw[z8C];cases q:zdJ (T! k) e.key with
    | false=>rfl | true=>
     rcases xf q with⟨i,u,h1,h2⟩ | ⟨x,u,h1,h2⟩;·cases h1
     ·rw[hk]at h2;cases h2)];exact ih
theorem zeh:∀y M,jF! ([]:dL! Mir) y M->Has P w K mg R! CX y n M:=λy M h=>by simp at h
theorem kP(h:Has P w K mg R! CX x n M0)(hs:∀y M,pW!=b! M->Has P w K mg R! CX y n M):∀y M,jF! ((x,M0)::Ms) y M->Has P w K mg R! CX y n M:=λy M e=>by
 rw[_V]at e;split at e
 ·rename_i hb;cases e;have:y=x:=by simpa using hb
  subst this;exact h
 ·exact hs y M e
end
def Sub(K:W.Frag)(h:Heap):k!:=∀p∈K,eR! p.1 p.2
theorem Sub.in_{K:W.Frag} (s:Sub K h):hZ!:=λa o e=>by induction K with
 | nil=>simp at e | cons p K ih=>
  obtain⟨b,u⟩:=p;rw[_V]at e;split at e
  ·rename_i hb;cases e;have:a=b:=by simpa using hb
   subst this;exact s (a,o) (by simp)
  ·exact ih (λq hq=>s q (by simp[hq])) e
theorem z9X(h:Heap)(a:Addr):Sub (zdg h a) h:=bs! (by
 unfold zdg at hp;split at hp
 ·rename_i o e;simp at hp;subst hp;exact e
 ·simp at hp)
theorem Sub.app{K L:W.Frag} (a:Sub K h)(b:Sub L h):Sub (K++L) h:=bs! (mR! hp (a p) (b p))
theorem zmS(h:Heap)(ns:ao!):Sub (gat h ns) h:=by
 refine (z9X h _).app (bs! ?_);obtain⟨x,_,hx⟩:=List.mem_flatMap.mp hp;unfold zv6 at hx;split at hx
 ·rcases l9! hx with hx | hx;·exact z9X h _ p hx
  ·split at hx
   ·split at hx;·exact z9X h _ p hx
    ·simp at hx
   ·exact z9X h _ p hx
   ·simp at hx
 ·simp at hx
def zuY(K:W.Frag)(x:Str)(st:Stmt):k!:=∃f fd,gq! K x=b! (a0! f)/\Fun K x x st f fd
theorem dA(s:Stmt):dArgs s=ki s:=by cases s<;>rfl
theorem dB(s:Stmt):zq3 s=xS s:=by cases s<;>rfl
theorem dS(s:Stmt):zlQ s=zm s:=by cases s<;>rfl
theorem znI{K:W.Frag} {st:Stmt}(h:zkO K x=zrI x st):zuY K x st:=by
 unfold zkO zrI at h;split at h
 ·rename_i f hf;split at h
  ·rename_i oc od fd sl hl;simp only[_y,_bs]at h;obtain⟨h1,h2,h3,h4,h5,h6,h7,h8,h9,lm,gq⟩:=h;obtain⟨a1,a2,a3,a4,a5,a6,a7,a8,a9,a10,a11,a12,ec,ed,ee⟩:=fd;simp only at h1 h2 h3 h4 h5 h6 h7 h8 h9 lm;subst h1 h3 h4 h5 h6 h7 h8 h9;subst h2;exact⟨f,_,hf,zqU hl lm gq⟩
  ·cases h
 ·cases h
theorem zjH{K:W.Frag} (h:znF K x=d!):gq! K x=b! a!:=by
 unfold znF at h;split at h;·rename_i e;exact e
 ·cases h
theorem zl9{K:W.Frag} (h:zoQ K x=is!):∃t,gq! K x=b! (b! (bS! i)):=by
 unfold zoQ at h;split at h;·rename_i j t e;cases h;exact dv! t
 ·cases h
theorem zei{K:W.Frag} (X:hZ!)(G:oH! mg):∀{es:List DictEntry}{tb:List (Str×Str)},zfu K es (tb.map (·.2))=tb.map (λp=>(PyData.keyHash sd! p.1,b! p.1,d!))-> PySem.KeysOf (wo P w) es.toArray/\(∀k y,mA!=b! y->∃f,n6! (zjc es) k=a0! f/\mg y=a0! f)/\∀k,mA!=a!->n6! (zjc es) k=a!
 | [],[],_=>⟨λe he=>by simp at he,λk y h=>by simp at h,λk _=>by simp[zjc]⟩ | [],_::_,h=>by simp[zfu]at h | _::_,[],h=>by simp[zfu]at h | e::es,(k0,y0)::tb,h=>by
  simp only[_p,zfu,_aY,_bs]at h;obtain⟨⟨h1,h2,h3⟩,h4⟩:=h;obtain⟨i1,i2,i3⟩:=zei (P:=P) X G h4;obtain⟨hh,kk,vv⟩:=e;simp only at h1 h2 h3;cases kk with
  | str ks t=>
   simp only[ziP,_y]at h2;subst h2;obtain⟨f,rfl,e1⟩:=(show ∃f,vv=u! f/\gq! K y0=b! (a0! f) from by
    unfold sameRef at h3;split at h3
    ·rename_i f g e1;have:f=g:=by simpa using h3
     subst this;exact aB! f e1
    ·cases h3);refine⟨λe he=>?_,λk y hy=>?_,λk hy=>?_⟩
   ·simp only[_do,_s]at he;rcases he with rfl | he;·exact⟨T! ks,z7x ks t,h1⟩
    ·exact i1 e (by simpa using he)
   ·simp only[zjc,_V]at hy ⊢;by_cases z:k=ks
    ·subst z;simp at hy ⊢;subst hy;exact W.mg_of X G e1
    ·rw[show (k==ks)=t! from by simpa using z]at hy ⊢;exact i2 k y hy
   ·simp only[zjc,_V]at hy ⊢;by_cases z:k=ks;·subst z;simp at hy
    ·rw[show (k==ks)=t! from by simpa using z]at hy ⊢;exact i3 k hy | _=>simp[ziP]at h2
theorem zn2{K:W.Frag} (X:hZ!)(G:oH! mg)(e:zoc K x (tb.map (·.2))=zsw w tb):zq5 P w K mg x tb:=by
 unfold zoc zsw at e;split at e
 ·rename_i a ha;split at e
  ·rename_i c d es ep sl hl;simp only[_y,_bs]at e;obtain⟨e1,e2,e3,e4,e5⟩:=e;obtain⟨i1,i2,i3⟩:=zei X G e5;have hs:sl=#[]:=Array.eq_empty_of_size_eq_zero (by simpa using e3);refine⟨a,_,es,ep,W.mg_of X G ha,e4,hl,aN! (by
    unfold zbQ at e1;split at e1
    ·rename_i n;have:n=nG!:=by simpa using e1
     rw[this]
    ·cases e1) (by simpa using e2) hs,rfl,i1,λk y hy=>?_,λk hy=>?_⟩;·rw[z3X];exact i2 k y hy
   ·rw[z3X];exact i3 k hy
  ·cases e
 ·cases e
def saysS(q:Ask)(w:World)(h:Heap):k!:=∃K:W.Frag,hZ!/\zeB q K=i9! q
theorem zmM(q:Ask)(w:World)(s:Shared)(e:obsS q s=i9! q):saysS q w I!:=bM! (zmS _ _).in_ e
theorem zfY(q:Ask)(w:World)(h h':Heap)(x:saysS q w h)(k:bD! (cJ! b->dC! b)):saysS q w h':=let ⟨K,a,b⟩:=x;⟨K,a.keeps k,b⟩
theorem z9l{α β:b4!}{f g:α->β}:∀{l:List α},mU!=kg!->∀x∈l,f x=g x:=λh x hx=>List.map_inj_left.mp h x hx
theorem zuh{K:W.Frag}(e:zeB q K=i9! q)(x:Str)(st:Stmt)(hx:(x,st)∈q.fs):zuY K x st:=znI (z9l (_aM sj! e) (x,st) hx)
theorem zsU{K:W.Frag}(e:zeB q K=i9! q)(x:Str)(hx:x∈q.bs):gq! K x=b! a!:=zjH (z9l (_aM (λz=>z.2.1) e) x hx)
theorem zux{K:W.Frag}(e:zeB q K=i9! q)(x:Str)(i:Int)(hx:(x,i)∈q.cs):∃t,gq! K x=b! (b! (bS! i)):=zl9 (z9l (_aM (λz=>z.2.2.1) e) (x,i) hx)
theorem zsn{K:W.Frag} (X:hZ!)(G:oH! mg)(e:zeB q K=i9! q)(x:Str)(tb:mX!)(hx:(x,tb)∈q.ts):zq5 P w K mg x tb:=zn2 X G (z9l (_aM (λz=>z.2.2.2.1) e) (x,tb) hx)
theorem ziu{Ya:World->α} (row:String) (bo:∀w:World,jO! (W.fencedOpening se! p w N) (I!,s.gens,s.drawn,fU!)=b! (j5!,jB!,p7!,p8!)) (hf:oC! (jO! (sH! p (sy! t!) N (e0! j5! jB! p7! p8!)) (W.openSeen q ob! sl! Xt g0 s,Yf s)) (W.openGood q ob!,Ya (sy! t!))) (ht:oC! (jO! (sH! p (sy! d!) N (e0! j5! jB! p7! p8!)) (W.openSeen q ob! sl! Xt g0 s,Yf s)) (W.openGood q ob!,Ya (sy! d!))):W.LeftO p q ob! Xt Yf Ya N g0:= W.LeftO.of_split row λw=>by
  obtain⟨⟨h,gs,d,k,os⟩,e,e'⟩:=qz! (bo w);obtain⟨rfl,rfl,rfl,rfl⟩:h=j5!/\gs=jB!/\d=p7!/\k=p8!:=by simpa only [_bs] using e'
  rw[e,_ah,hf w os,ht w os]
theorem zbP: ∀{n:Nat}{s s':W.SharedT}{t:Thread},z7B tb p w n₀ dD n s t=b! s'->W.topRun tb p w n₀ dD n iz! t=b! s'.abs
 | 0,_,_,_,h=>by cases h | n+1,s,s',t,h=>by
  unfold z7B at h;unfold W.topRun;cases he:W.through t with
  | true=>rw[he]at h;cases h;rfl | false=>
   rw[he]at h;cases hk:W.stepOk n₀ dD t with
   | false=>rw[hk]at h;cases h | true=>
    rw[hk]at h;cases hs:W.stepT (denote tb) p w s t with
    | none=>rw[hs]at h;cases h | some r=>rw[hs]at h;rw[W.stepT_spec hs];exact zbP h
theorem z8E{os:OsState} (ha:W.absHeap t0 m₀ h.life=h) (sz:(h.isNs l6!&&(jB!:rZ!).size==0,jg!,h.nsMap l6! "__annotations__")=(d!,m₀,dD)){α:b4!}{f:nW!->α}{v:α} (hr:(z7B se! p w m₀ dD N ⟨t0,m₀,h.life,jB!,d,k,os⟩ (W.topStub p)).map (λsT=>(W.staticsOk sl! h qE!&&W.namesBound p qE!&&W.gensDone sT.abs&&W.laidKept h qE!,f sT.abs))=b! (d!,v)): (sH! p w N (e0! h jB! d k)).map f=bB!:=by
 obtain⟨sT,e1,e2⟩:=qz! hr;obtain⟨e3,e4⟩:=Prod.mk.inj e2;obtain⟨z1,z2,z3⟩:_/\_/\_:=by simpa only [_bs] using sz
 have r:=zbP e1;rw[(show (⟨t0,m₀,h.life,jB!,d,k,os⟩:p5!).abs=e0! h jB! d k from by
  show (e0! (W.absHeap t0 m₀ h.life) jB! d k:nW!)=_;rw[ha])]at r;have t:sH! p w N (e0! h jB! d k)=b! sT.abs:=by
  unfold W.topFrom;rw[z1,z2,z3,r];show (match (W.staticsOk sl! h qE!&&W.namesBound p qE!&&W.gensDone sT.abs&&W.laidKept h qE!) with | true=>b! sT.abs | false=>none)=_;rw[e3]
 rw[t,_ah,e4]
theorem zcR{α β γ δ:b4!}{r:bn! α}{f:α->β}{g:α->γ}{k:α->δ}{x:β}{y:γ}{z:δ}(h1:ni! (λs=>(f s,k s))=b! (x,z))(h2:ni! g=b! y):ni! (λs=>(f s,(g s,k s)))=b! (x,(y,z)):=by
 obtain⟨s,e1,e2⟩:=qz! h1;obtain⟨s',e3,e4⟩:=qz! h2;rw[e1]at e3;cases e3;obtain⟨e5,e6⟩:=Prod.mk.inj e2;rw[e1,_ah,e4,e5,e6]
theorem walkY{l:W.OpenLaw} (hn:l.most=b! n)(fj:n<=aS!)(ik:n<=63)(gW:d.params.defaults=[])(hr:z2z k qs!) (F:∀(w:World)(mg:Str->Option Value)(fa:Addr)(h:Heap),YP w h->oH! mg->mg d.name=a0! fa->XP mg h-> ∃K:W.Frag,hZ!/\∃fd:FuncData,(∀(s:Shared)(u:Value),qm! s fd (dN! [u]) [(x,u)])/\ ∀base:Heap,K.In R!->ss! mg->z9Z l.prog w K mg R! CX0 k fa fd [x] (zo4 K)): W.WalkO q ob! XP YP l.row.toRowW d [] (λf vs=>PySem.call f vs):=by
 refine Att.zdq hn gW λw s₀ s₁ mg mb fa o pm cd aE a vs ns G Yy ho hd bz cV dH cG ao hg=>?_;obtain⟨K,KX,fd,hb,hF⟩:=F w mg fa _ Yy G.T.g cV G.X;exact zkz KX G.T.g G.T.b G.T.builtins G.T.nolimit hg dH cG (_Z ao fj) hr hF hb (λH hO hS=>⟨a,ns,rfl,hO,hS,_Z ao ik,λ_=>rfl⟩) λH e s' z=>z
end Dd
namespace HT
section
variable {prog:Program}{w:World}{A:Around}{s:Shared}{E:bX!}
theorem zfO(n:Nat):Builtin.Slice.sliceAdjust a! a! (-1) (j! n)=(j! n-1,-1):=by
 unfold Builtin.Slice.sliceAdjust;rfl
theorem zg1(n:Nat):qp! (j! n-1) (-1) (-1)=n:=by
 unfold Builtin.Slice.slicePlaces;rw[_o (by decide)];by_cases h:n=0;·subst h;rfl
 ·rw[_h (by omega)];simp
theorem z5G{sl:Addr} {t:Tok} {n:Nat} {Q:Int×Int×Nat->ey!} (hs:rY! aa! aa! (bS! (-1))) (h:Q (j! n-1,-1,n) s):cF! w A (Builtin.Slice.sliceApplied (u! sl) (dY! (j! n))) Q E s:=by
 obtain⟨os,bZ,cT,cP⟩:=id hs;unfold Builtin.Slice.sliceApplied Builtin.Slice.sliceFields;refine _a (_a (_U bZ cP (x:=aa!) rfl (_a (_U bZ cP (x:=aa!) rfl (_a (_U bZ cP (x:=bS! (-1)) rfl (_m ?_)))))));refine _a (slicePart_int ?_);show fJ! _ _ (aF! (j! (-1)==0) _ _) _ _;rw[_o (by decide)];refine _a (_cF (_a (_cF (_a (_m ?_)))));show fJ! _ _ (match Builtin.Slice.sliceAdjust a! a! (-1) (j! n) with | (lo,hi)=>dY! (lo,j! (-1),qp! lo hi (-1))) _ _;rw[zfO n];show fJ! _ _ (dY! (j! n-1,j! (-1),qp! (j! n-1) (-1) (-1))) _ _;rw[zg1];exact _m h
theorem zjx(xs:cD!):nf! (rX! qF! (λ(m:Nat)=>xs[(j! qF!-1+j! m*(-1)).toNat]?))=xs.toList.reverse.toArray:=by
 congr 1;have key:∀(k:Nat),k<=qF!->rX! k (λ(m:Nat)=>xs[(j! qF!-1+j! m*(-1)).toNat]?)=xs.toList.reverse.take k:=by
  intro k;induction k with
  | zero=>simp | succ k ih=>
   intro hk;rw[List.range_succ,List.filterMap_append,ih (by omega)];have h1:fy! (j! qF!-1+j! k*(-1))=qF!-1-k:=by omega
   rw[_bF,h1,Array.getElem?_eq_getElem (by omega)];have hl:k<xs.toList.reverse.length:=by simp;omega
   rw[List.take_succ,_b hl];simp
 rw[key _ ak!,List.take_of_length_le (by simp)]
theorem z3O{t sl:Addr} {items:cD!} {tk:Tok} {Q:bX!} (ht:IsTup I! t hf!) (hs:rY! aa! aa! (bx! (-1) tk)) (h:Q fZ! {s with heap:=h7! ({cls:=dK!,data:=.seq items.toList.reverse.toArray})}) (bi:hH!<=aS!):cF! w A (getItem (u! t) (u! sl)) Q E s:=by
 have bW:sizeOk (.seq items.toList.reverse.toArray):=by
  show items.toList.reverse.toArray.size<=aS!;simpa using bi
 obtain⟨os,bZ,cT,cP⟩:=id hs;have nD:pi! (u! sl) "slice":=aN! os bZ cT;unfold getItem;try with_reducible refine _aS ?_
 first | refine _a (_m ?_) | skip
 refine _a (_cX lu! (by decide) ?_);refine _a (_ag (name:=Str.ofString "__getitem__") ht.typeIs _Q (_av _Q lu! _cr ?_ (_cG _ _)));show fJ! _ _ (Builtin.Tuple.tupleItemsOf (u! t) >>= _) _ _;refine _a (tupleItemsOf_ ht ?_);refine _a (_dA nD ?_);rw[_h (by decide)];refine _a (z5G (n:=items.size) hs ?_);have gy:¬ ((j! hH!-1==0&&j! (-1)==1&&hH!==hH!)=d!):=by simp
 show fJ! _ _ (aF! (j! hH!-1==0&&j! (-1)==1&&hH!==hH!) _ _) _ _;rw[_o gy,zjx];first
  | exact _a (m:=so!) (_aG (_m (aB! _ (_m h))) bW) | exact _a (m:=so!) (_aG (_a (_m (_m (aB! _ (_m h))))) bW) | exact _a (_a (m:=so!) (_aG (_m (_m (aB! _ (_m h)))) bW)) | exact _a (_a (m:=so!) (_aG (_m (aB! _ (_m h))) bW))
end
end HT
namespace L2
section
variable {X:Cx}{e m:Expr}{te:TE}{pos p2:Pos}
def zsk(K:W.Frag)(te:TE):TE:=gL! (te O H (hE! (∃a xs,x=ag!/\SqT K H1 a xs/\∀p,H1 p=a!->Q cn! (upd H1 p (n! xs.reverse)))))
theorem zoB(he:V! e te) (hm:∀(ae:List (Addr×Obj)) (s:Shared) (O:St) (H:Hp),L!->bO! (evalPart (b! m) aT!) (λu s'=>∃t,u=bS! (-1)/\lI! s') s): V! (my! e (.Slice a! a! (b! m) p2)) (zsk X.K te):=by
 intro ae s O H Q I h;refine Subscript_ (thn (he ae s O H _ I h) λv s1 ⟨x,H1,I1,r1,q1⟩=>?_);refine wpAny_Slice ?_;rw[evalPart_none];refine _m (_m ?_);refine thn (hm ae s1 O H1 I1) λu s3 ⟨t,eu,I3⟩=>?_;subst eu;have I4:cQ! H1 ({s3 with heap:=s3.heap.push {cls:=av! "slice",data:=eJ! #[aa!,aa!,bS! (-1)]}}):=I3.kept (t':=s3.toks) λb ob q=>_g _ q;obtain⟨a,xs,rfl,hx,q⟩:=q1;cases r1;obtain⟨af,r,ht,hz⟩:=I4.tuple hx;show bO! (subscriptTail e (.Slice a! a! (b! m) p2) ag! (u! s3.heap.objs.size)) (EP X ae O Q) ({s3 with heap:=s3.heap.push {cls:=av! "slice",data:=eJ! #[aa!,aa!,bS! (-1)]}});refine tail_any (ops:=[ag!,u! s3.heap.objs.size]) ht.typeIs _Q.lookup ?_ (by with_unfolding_all rfl);have ao:iI!=w!:=by rw[_u];exact r.length.symm
 refine HT.z3O ht (Heap.IsSliceOf.new ..) ?_ (by rw[ao];exact hz);refine⟨u! _,_,I4.laid (t':=s3.toks) (o:=n! xs.reverse) (λb ob q=>_g _ q) ak! ?_,rfl,q _ (I4.hok.fresh ak!)⟩;have hr:xw xs.reverse af.reverse:=by
  clear hx hz ht q I4 ao;induction r with
  | nil=>exact cB! | cons p _ ih=>rw[_b2,_b2];exact ih.append (eI! p cB!)
 refine⟨by simpa using hz,af.reverse,hr,?_⟩;have e:af.toArray.toList.reverse.toArray=af.reverse.toArray:=by rfl
 rw[e];exact zgo.new _ _
end
end L2
namespace Dd
open L2
section
variable {X:Cx}{E:XK}{e:Expr}{pos p2 p3 p4:Pos}
theorem yp.rev{mg:Gm}{H:Hp}{Y:bi!}:∀{xs:List D}{vs:List V},hu!->gw! H Y xs.reverse vs.reverse
 | [],vs,h=>by obtain rfl:=h;exact yp.nil | d::ds,vs,h=>by
  obtain⟨v,r,rfl,h1,h2⟩:=h;rw[_b2,_b2];exact (yp.rev h2).append (.one h1)
noncomputable def zqP(f:FE):FE:=eO! (eb! (match d with
 | .tup xs=>P! (n! xs.reverse) | _=>.no))
theorem zuO{j:Nat} {f:FE} (he:fq! f):X! (my! e (.Slice a! a! (b! (.UnaryOp .USub (jE! (c! 1) p3) p4)) p2)) (zqP f):= yq (zoB he λae s O H I=>by
  rw[evalPart_some];refine thn ((zqZ (pos:=p4) zlS (zmB (i:=1) (j:=j) (pos:=p3))) ae s O H (λv H1=>v=c! (-1)/\H1=H) I ?_) λu s1 ⟨x,H1,I1,r1,e1,e2⟩=>?_;·exact fH! 1 rfl rfl
  ·subst e1 e2;obtain⟨t,rfl⟩:=r1;exact aB! t I1) λO H Q ⟨Y,ρ,s,r,en,h⟩=>by
  unfold zqP at h;refine⟨Y,ρ,s,r,en,(okR.bind (Dn:=ki!) h).imp λv H1 ⟨Y1,s1,d,stp,dn,h1⟩=>?_⟩;cases d with
  | tup xs=>
   obtain⟨a,vs,rfl,q1,q2⟩:=kU (K:=X.K) dn;exact gW! a vs q1 (z4L dH! h1 q2.rev) | _=>exact h1.elim
end
section
variable {X:Cx}{E:XK}{e:Expr}{pos:Pos}
noncomputable def zoW(i j k:Nat):FG:=λd ρ s=>match d with
 | .tup [x,y,z]=>i! (gX! (gX! (ij! fk!) j y) k z) | _=>.no
theorem zqh(i j k:Nat){x y z:Str}{px py pz:Pos}{kt:Nat}(hc:bW!)(hN:X.N.Nodup)(hi:y! (f5! x))(hj:y! (G! X.N j y))(hk:y! (G! X.N k z))(hx:ky! x)(hy:ky! y)(hz:ky! z) (hf:gT! (f3! x\/eU! x))(fm:gT! (f3! y\/eU! y))(dg:gT! (f3! z\/eU! z)): RG X E (iV! [fe! px,ge!,.Name z pz] pos) (zoW i j k):= zgw (ziv hc (z0r (zL hN hi hx hf) (z0r (zL hN hj hy fm) (z0r (zL hN hk hz dg) zdS)))) λv O H Q ⟨Y,ρ,s,d,r,en,dn,h⟩=>by
  unfold zoW at h;split at h
  ·rename_i d1 d2 d3;obtain⟨p,vs,rfl,q1,q2⟩:=kU (K:=X.K) dn;obtain⟨v1,v2,v3,rfl,e1,e2,e3⟩:=ztX q2;exact⟨p,[v1,v2,v3],rfl,q1,rfl,v1,[v2,v3],rfl,v2,[v3],rfl,v3,[],rfl,rfl,gV! h (((en.set e1 i).set e2 j).set e3 k)⟩
  ·exact h.elim
@[simp] theorem zv9(i j k:Nat)(x y z:D)(ρ:Ev)(s:Sto):zoW i j k (n! [x,y,z]) ρ s=i! (gX! (gX! (ij! fk!) j y) k z):=U!
end
section
variable {X:Cx}{E:XK}{e o a b c:Expr}{es:aD!}{pos:Pos}
def zft:D->D->bm!
 | x,.int k,s=>match l0! x with
  | some xs=>ac! (w!*dZ!<=cap/\-(2 ^ 62)<=k/\k<2 ^ 62/\dc! (hN! dZ! xs)) (g3! (s++[hN! dZ! xs])) | none=>.no
 | _,_,_=>.no
theorem zpB:∃r,nD! r/\c0! zft:=by
 refine bM! zlK ?_;intro H Y s d1 d2 v1 v2 Q r h1 h2 h;unfold zft at h;split at h
 ·rename_i k;cases yx h2;split at h
  ·rename_i xs hx;split at h
   ·rename_i hl;obtain⟨l,vs,e,q1,q2⟩:=yu r hx h1;exact⟨l,k,vs,e,rfl,q1,by omega,by omega,by rw[q2.length];exact z0A hl.1,zgB r h hl.2.2.2 (q2.flat_rep _)⟩
   ·exact h.elim
  ·exact h.elim
 ·exact h.elim
end
structure Fly(P:Program)(w:World)(outer:mL!)(H:Hp)(s:Shared)(C ea:Addr)(H':Hp)(s':Shared):k! where
 os:qe!=s.os
 bare:rl!
 un:Un mG! [] H H' I! gK!
 hok:HOk P w H' gK!
 fly:∃B a0,rA! B as! aR! a0 gK!/\bD! (sx!=b! o->(H' b≠a!\/((∃o',fY! b o')/\b∉mG!))->B.get? b=b! o)
def CX1(P:Program)(w:World):CXT:=λouter H s E e s'=>∃C ea H',e=u! ea/\Fly P w as! H s C ea H' s'/\E aR! a! H'
theorem HOk.cov{h h' B:Heap}(x:HOk P w H h)(c:bD! (cJ! b->H b≠a!->B.get? b=b! o))(k:B.StaysIn h'):HOk P w H h':=λa o e=> (x a o e).stay (λb u hb q=>by
  refine k b u (c b u q ?_);rcases hb with rfl | hb;·rw[e];simp
  ·rw[hb];simp) (λ_ q=>q) λ_ _ q=>q
theorem zkk(x:kF P w H h a o):∃ob,eR! a ob:=by cases o with
 | lst xs=>obtain⟨_,_,_,_,e⟩:=x;exact dv! _ | tup xs=>obtain⟨_,_,_,ob,e,_⟩:=x;exact dv! _ | dK ah=>obtain⟨_,_,_,_,o,_,_,e,_⟩:=x;exact dv! _ | dT ah=>obtain⟨_,_,_,_,o,_,_,e,_⟩:=x;exact dv! _ | set S n=>obtain⟨o,_,_,_,e,_⟩:=x;exact dv! _ | ins C dx fs=>obtain⟨_,_,_,e,_⟩:=x;exact dv! _ | own y=>exact x | xd fs=>obtain⟨_,⟨_,_,_,e,_⟩,_⟩:=x;exact dv! _ | rng lo hi=>obtain⟨_,_,_,e⟩:=x;exact dv! _ | frz ob u=>obtain⟨e,_⟩:=x;exact dv! _ | tbl ps=>exact gy! x | met f y=>exact gy! x | ext φ=>obtain⟨_,e,_⟩:=x;exact e
section
variable {X:Cx}{E:XK}{ae:dh!}{O:L2.St}{H:Hp}{s:Shared}
theorem Inv.left(I:L!)(cf:ll!=[])(ho:kz!=as!)(fl:rA! B as! aR! a0 h')(sm:s.heap.UpToSlots h') (c:bD! (dp! b->(H b≠a!\/((∃o',rQ!=b! o')/\b∉mG!))->B.get? b=b! o)) (hg:rG! g): Fly aO! X.w as! X.H₀ X.s₀ C ea H ⟨h',g,d,t,s.os⟩:=by
 subst ho;have k:=fl.1;refine⟨jR!,hg,⟨λb o e n nf ne=>(k b o (c b o (qa! b o e n nf (by rw[cf];exact ne)) (em! (dv! o) nf))),λb o e n hf ne=>?_,λb o e n ne=>(rF! o e n (by rw[cf];exact ne)),λb o e ne=>?_,I.base.tups,I.base.frzs,I.base.tbls⟩,HOk.cov eK! (λb o e n=>c b o e (z! n)) k,B,a0,fl,λb o e q=>?_⟩
 ·obtain⟨sl,e1⟩:=qb! b o e n hf (by rw[cf];exact ne);obtain⟨_,o2,e2,cX⟩:=I.funs.mem hf;rw[e1]at e2;cases e2;obtain⟨cF,e3⟩:=sm b _ e1 cX;exact aw! cF e3
 ·by_cases hf:b∈frs kz!
  ·obtain⟨_,o2,e2,cX⟩:=I.funs.mem hf;obtain⟨cF,e3⟩:=sm b _ e2 cX;exact gy! e3
  ·obtain⟨o1,e1⟩:=oO! o e (by rw[cf];exact ne);exact⟨o1,k b o1 (c b o1 e1 (em! (dv! o) hf))⟩
 ·have back:∀o1,fY! b o1->B.get? b=b! o:=λo1 e1=>by
   have e2:=c b o1 e1 (q.imp id λz=>z);have:dC! b:=e;rw[(k b o1 e2)]at this;cases this;exact e2
  rcases q with q | ⟨⟨o',e'⟩,nf⟩;·cases z:H b with
   | none=>exact o7! q | some u=>
    obtain⟨o1,e1⟩:∃o1,fY! b o1:=zkk (nZ! b u z);exact back o1 e1
  ·obtain⟨o1,e1⟩:=oO! o' e' (by rw[cf];simp);exact back o1 e1
end
section
variable {P:Program}{w:World}{K:W.Frag}{mg:Str->aL!}{base:Heap}{N:ao!}{qual:Str}{scope:Scope}{f:Addr}{cd:Value}{A:Around}{outer:mL!}{s:Shared}{H:Hp}{E:XK}
theorem z4o:(pO! at! by! f cd).frame=b! ar!:=rfl
theorem z1H:Passes dB! (z5v dB! P w K mg R! N at! by! f cd A as! s H E) E:=by
 intro ae O H1 s1 e s' I h;obtain⟨C,ea,H',he,fl,hE⟩:=h;subst he;obtain⟨h2,g2,d2,t2,nE⟩:=s';have nF:nE=s1.os:=fl.os;subst nF;have I':=I.call (h':=h2) (g':=g2) (d':=d2) (t':=t2) (ch:=[]) fl.un fl.hok fl.bare (λb z=>o7! (by simp));obtain⟨B,a0,fw,cov⟩:=fl.fly;refine wpAny_leaves_onW (base:=B) (outer:=outer) I.ok.frames z4o fw λh' nG sm=>⟨C,ea,H',rfl,Inv.left I' rfl rfl nG sm (λb o e q=>cov b o e (q.imp id λz=>?_)) I'.bare,hE⟩;obtain⟨⟨o',e'⟩,nf⟩:=z;obtain⟨o1,e1⟩:=oO! o' e' (by show b∉([]);simp);refine⟨aw! o1 e1,λz=>?_⟩;rcases dE! z with z | z
 ·have:=_q e';rw[z]at this;exact kS! jq! _
 ·exact nf z
theorem zqs{O:L2.St} (I:Inv (z5v dB! P w K mg R! N at! by! f cd A as! s H E) ae O H1 s1) (hx:Heap.MadeExcOf qi! h' e aR! jS!) (hE:E aR! a! H1): (z5v dB! P w K mg R! N at! by! f cd A as! s H E).xe (u! e) {s1 with heap:=h'}:=by
 refine wpAny_leaves_madeW (base:=W.hideAll qi! (frs (pO! at! by! f cd::as!))) (h:=s1.heap) (outer:=outer) I.ok.frames z4o (λb o q=>W.of_hideAll _ q) (W.funFrames_hide I.stack (λenv he b hb=>_cC.mpr ⟨env,he,hb⟩)) hx λpR t fw tup bt sm=>⟨C,e,H1,rfl,Inv.left I rfl rfl fw (bb! (Heap.UpToSlots.of_keeps hx.keeps) sm) (λb o eb q=>W.hideAll_get _ eb λz=>?_) jj!,hE⟩;rcases q with q | ⟨⟨o',e'⟩,nf⟩;·exact q (I.stkFree b z)
 ·rcases dE! z with z | z
  ·have:=_q e';rw[z]at this;exact kS! jq! _
  ·exact nf z
end
def zh5(X:Cx) (E:XK):k!:=∀(ae:List (Addr×Obj)) (O:L2.St) (H1:Hp) (s1:Shared) (h':Heap) (e C:Addr) (args:List Value),cQ! H1 s1->Heap.MadeExcOf qi! h' e aR! jS!->E aR! a! H1->X.xe (u! e) {s1 with heap:=h'}
def zoV(K:W.Frag)(mg:Str->aL!)(x:Str):k!:=∃C,mg x=a0! C/\W.excIn K C bmV "ValueError.__new__"=d!
theorem ziQ{K:W.Frag} (X:K.In h₀)(q:W.excIn K C bmB aY=d!): ∃bm N nm q bs hdct sn sub ab col dd k0 k1 k2 k3 k5 mN,h₀.get? C=b! (excClassObj nm q C N bs bm hdct sn sub ab col dd k0 k1 k2 k3 k5 aY)/\h₀.Ns N mN/\mN "__init__"=a!/\OwnTail h₀ bmB bm:=by
 unfold W.excIn at q;split at q
 ·rename_i dd cd sl ho;split at q
  ·rename_i C' bm k0 k1 k2 k3 n k5 hm hs;simp only[_R,_az,Bool.not_eq_true']at q;obtain⟨⟨⟨⟨⟨rfl,rfl⟩,iu⟩,ht⟩,hok⟩,gA⟩:=q;obtain⟨nm,bs,mro,ns,qn,hd,sn,sub,ab,col,pS⟩:=cd;subst hm iu;have nH:sl=#[k0,k1,k2,k3,hV! n,k5]:=by
    obtain⟨l⟩:=sl;simp only at hs;rw[hs]
   subst nH;exact⟨bm,ns,nm,qn,bs,hd,sn,sub,ab,col,dd,k0,k1,k2,k3,k5,_,X _ _ ho,.of_isNs (W.isNs_of_in X hok),W.nsMap_none_of_in X hok gA,W.tail_of_in X ht⟩
  ·cases q
 ·cases q
section
variable {X:Cx}{E:XK}{pos:Pos}
noncomputable def z95(c:Str):FS:=λ_ s=>dQ!
theorem z9u(hk:zoV X.K fw! x) (nI:zh5 X E) (hc:bW!) (hg:e6!) (hd:cm! (x==cP!)): RS X E (.Raise (b! (fz! (fe! np) [jE! (aq! m) p] [] ak)) a! pos) (z95 x):=by
 intro ae s O H D I h;obtain⟨Y,ρ,st,r,en,h⟩:=h;obtain⟨C,hm,hq⟩:=hk;have hE:E aR! a! H:=h H Y C (vN.refl r) hm;obtain⟨tl,Nn,nm,q,bs,hdct,sn,sub,ab,col,dd,k0,k1,k2,k3,k5,mN,hC,hN,gA,T⟩:=ziQ I.mod.kin hq;refine wpAny_Raise_call_subT (C:=C) (nm:=nm) (q:=q) (N:=Nn) (bs:=bs) (bm:=tl) (hdct:=hdct) (sn:=sn) (sub:=sub) (ab:=ab) (col:=col) (dd:=dd) (k0:=k0) (k1:=k1) (k2:=k2) (k3:=k3) (k5:=k5) _bz (mN:=mN) (T.hasType _bz.hasBase) hl! rfl gA (z4m I hg hm (fc! (_bx (thn (va (X:=X) (zm3 (X:=X)) (z1b (X:=X)) rfl ak ae s O H (λvs H1=>vs=[aq! m]/\H1=H) I (cf! rfl)) λus s2 h2=>?_))) hd);obtain⟨vs,H1,I1,r1,e1,e2⟩:=h2;subst e1 e2;obtain⟨u,rfl,ru⟩:=r1.one;exact⟨rfl,by show 1<=aS!;decide,I1.bk _ _ hC,hN.keeps I1.bk,T.keeps I1.bk,λh' e mk=>nI ae O _ s2 h' e C [u] I1 mk hE⟩
end
noncomputable def kZ(N:ao!)(n:Nat)(fs:FS):Mir:=λds s=>ac! (qw!=n) (match fs (zy N ds) s with
 | .ok (.rt d) s'=>bj! d | .ok (.nx _) s'=>bj! an! | .ex c s'=>.ex c s' | _=>.no)
section
variable {P:Program}{w:World}{K:W.Frag}{mg:Str->aL!}{base:Heap}
theorem zbK: Passes CX0 X E:=λ_ _ _ _ _ _ _ h=>h.elim
theorem znc{st:Stmt} (F:Fun K x at! st f fd)(hm:mg x=a0! f)(hb:km! K ps [])(S:S! N ps st)(hn:a2!=n) (body:sk! (z2z k (kd! at! c6! f aj)) ((z5v dB! P w K mg R! N at! c6! f aj A as! s H E).calm=d!-> RSs (z5v dB! P w K mg R! N at! c6! f aj A as! s H E) E h2! fs)):Has P w K mg R! dB! x (k+1) (kZ N n fs):=by
 subst hn;obtain⟨oc,od,kV,aE,pm,an,aj,ct,cD,rfl,lk,bz⟩:=F.ex;refine⟨f,_,ps,zpe lk bz S (qB! ?_) (λA outer s H vs Q E hr h=>?_),hb,F.kp,hm⟩
 ·obtain⟨Y,s,ds,_,dn,h⟩:=h;unfold kZ at h;split at h;·rename_i e;rw[dn.length];exact e
  ·exact h.elim
 ·obtain⟨Y,cr,ds,r,dn,h⟩:=h;refine⟨_,body aj A as! s H E hr (by show A.handled.isNone=d!;rw[show nw! from hr.hd];rfl),Y,zy N ds,cr,r,z1D dn,?_⟩;unfold kZ at h;split at h
  ·split at h
   ·rename_i d s' e;rw[e];intro fv H' Y' stp fd;cases fv with
    | rt v=>exact h v H' Y' stp fd | _=>exact b5! fd
   ·rename_i ρ s' e;rw[e];intro fv H' Y' stp fd;cases fv with
    | nx v=>exact h an! H' Y' stp (by rfl) | _=>exact b5! fd
   ·rename_i c s' e;rw[e];exact h
   ·exact h.elim
  ·exact h.elim
noncomputable def zwr(M:Mir):Mir:=λds s=>match M ds s with | .ex _ _=>.no | r=>r
end
noncomputable def kj(f:FS):FS:=eO! (match ay! with | .ex _ _=>.no | r=>r)
theorem ji{st:Stmt} (h:RS X.nox E0 st f):RS X E st (kj f):=λae s O H D I hw=>by
 obtain⟨Y,ρ,cr,r,en,q⟩:=hw;exact kW! (h ae s O H D (I.wish _) ⟨Y,ρ,cr,r,en,(by
  unfold kj at q;cases e:f ρ cr with
  | ok d s'=>rw[e]at q;exact q | ex c s'=>rw[e]at q;exact q.elim | no=>rw[e]at q;exact q.elim)⟩) (λ_ _ q=>q.unwish) (mb! z)
@[simp] theorem znT(f:FS)(ρ:Ev)(s:Sto):kj f ρ s=(match ay! with | .ex _ _=>.no | r=>r):=U!
@[simp] theorem zrQ(c:Str)(ρ:Ev)(s:Sto):z95 c ρ s=dQ!:=U!
theorem z5R{K:W.Frag} : zh5 (z5v dB! P w K mg R! N at! by! f cd A as! s H E) E:=λ_ _ _ _ _ _ _ _ I hx hE=>zqs I hx hE
end Dd
namespace PySem
open PySem.Sem (wp)
section
variable {M:Model}{A:Around}{E:bX!}
theorem z0i{h:Heap}{g:rZ!}{d:Drawn}{t:Nat}{os:OsState}{e C D:Addr}{oe:Obj}{Q:cc!->ey!} {nm q:Str}{N:Addr}{bs bm:c3!}{hdct:Bool}{sn:ao!}{sub:c3!}{ab:Bool}{col:rr!}{dd:oR!}{k0 k1 k2 k3 k5:aL!}{aY:String} {lq q':Str}{N':Addr}{lu gB:c3!}{dm:Bool}{lA:ao!}{fD:c3!}{lB:Bool}{fE:rr!}{lC:oR!}{lD lE lF lG lH:aL!}{cM:String} (hC:eR! C (excClassObj nm q C N bs bm hdct sn sub ab col dd k0 k1 k2 k3 k5 aY))(hD:eR! D (excClassObj lq q' D N' lu gB dm lA fD lB fE lC lD lE lF lG lH cM)) (he:eR! e oe)(cu:oe.cls=aR!)(am:gB.contains (av! "BaseException")=d!)(bP:qj! (lh! C::bm) (u! D)=d!) (hq:Q d! (e0! h g d t)):wpAny M A (excMatches (u! e) (u! D)) Q E (e0! h g d t):=by
 have f:=tc_notTuple;repeat (first | (with_reducible rw[cu]) | with_reducible refine _aN hD ?_ | with_reducible refine _aN hC ?_ | (with_reducible refine wpAny_isSubtype_exc hD ?_;rw[(show qj! (lh! D::gB) (av! "BaseException")=d! from by rw[List.contains_cons,am,Bool.or_true])]) | (with_reducible refine wpAny_isSubtype_exc hC ?_;rw[bP]) | wp_step)
 exact hq
end
end PySem
namespace Dd
open L2
theorem _root_.L2.Inv.locals{O:L2.St} (I:ly! X ae O H s)(hn:h'.Ns jQ! m')(sb:Heap.SameBut jQ! I! h'): ly! X ae (oE! X.N.length) H ({s with heap:=h',toks:=t}):=by
 have k:bD! (iN! b->dp! b->dC! b):=λb o n e=>sb.extBut _ _ n e;have dX:bD! (rQ!=b! o->iN! b):=gJ! (_D (_j c8! nY!));refine⟨nc!,jR!,jj!,⟨λb o e n nf ne=>k b o (dX b o e) (qa! b o e n nf ne),λb o e n hf ne=>?_,I.base.free,λb o e ne=>?_,I.base.tups,I.base.frzs,I.base.tbls⟩,⟨m',hn,λi x v h1 h2=>?_⟩,λx c e=>?_,iE!,ln!,bs! ?_,λa o e=>?_,by simp⟩
 ·obtain⟨sl,e1⟩:=qb! b o e n hf ne;exact⟨sl,k b _ (dX b o e) e1⟩
 ·obtain⟨o1,e1⟩:=oO! o e ne;exact⟨o1,k b _ (dX b o e) e1⟩
 ·rw[_be]at h2;split at h2<;>cases h2
 ·obtain⟨v,o,ho,hd⟩:=nE! x e;exact⟨v,o,k c o (I.cne x c e) ho,hd⟩
 ·obtain⟨q1,q2,q3,q4⟩:=k8! hp;exact⟨k p.1 p.2 q3 q1,q2,q3,q4⟩
 ·refine (nZ! a o e).stay (λb u hb q=>k b u (λz=>?_) q) (λ_ q=>q) λ_ _ q=>q;have:=I.free;rw[<- z]at this;rcases hb with rfl | hb;·rw[e]at this;cases this
  ·rw[hb]at this;cases this
noncomputable abbrev Cx.at_(X:Cx)(pn:dh!)(xe:bX!):Cx:={X with pn:=pn,xe:=xe}
noncomputable abbrev Cx.mk_(X:Cx)(e:Addr)(pn:dh!):Cx:={X with A:=X.A.mark (a0! e),calm:=false,pn:=pn,xe:=iP!}
theorem Cx.ok_at(ok:X.Ok) : (po! X pn xe).Ok:= ⟨ok.mod,ok.kind,ok.glob,ok.blt,ok.above,ok.inj,ok.has,ok.cab,ok.hd,ok.frames,ok.stk,ok.exf,ok.bs,ok.bsz,ok.noex,ok.exfs,ok.funs,ok.frf⟩
theorem Cx.ok_of(ok:(po! X pn xe).Ok):X.Ok:= ⟨ok.mod,ok.kind,ok.glob,ok.blt,ok.above,ok.inj,ok.has,ok.cab,ok.hd,ok.frames,ok.stk,ok.exf,ok.bs,ok.bsz,ok.noex,ok.exfs,ok.funs,ok.frf⟩
theorem Cx.ok_mk(ok:X.Ok) : (qG! X e pn).Ok:= ⟨ok.mod,ok.kind,ok.glob,ok.blt,ok.above,ok.inj,ok.has,ok.cab,(λh=>by cases h),ok.frames,ok.stk,ok.exf,ok.bs,ok.bsz,ok.noex,ok.exfs,ok.funs,ok.frf⟩
section
variable {X:Cx}{ae:dh!}{O:L2.St}{H:Hp}{s:Shared}
theorem _root_.L2.Inv.at_(I:ly! X ae O H s) : ly! (po! X (iD!++ae) xe) [] O H s:= ⟨Cx.ok_at nc!,jR!,jj!,n0!,l8!,n1!,iE!,ln!,bs! (k8! (by simpa using hp)),eK!,lm!⟩
theorem _root_.L2.Inv.of_at(I:ly! (po! X (iD!++ae) xe) pins' O H s):ly! X ae O H s:= ⟨Cx.ok_of nc!,jR!,jj!,n0!,l8!,n1!,iE!,ln!,bs! (k8! (_ba _ hp)),eK!,lm!⟩
theorem _root_.L2.Inv.mk_(I:ly! X ae O H s) : ly! (qG! X e (iD!++ae)) [] O H s:= ⟨Cx.ok_mk nc!,jR!,jj!,n0!,l8!,n1!,iE!,ln!,bs! (k8! (by simpa using hp)),eK!,lm!⟩
theorem _root_.L2.Inv.of_mk(ok:X.Ok)(I:ly! (qG! X e (iD!++ae)) pins' O H s):ly! X ae O H s:= ⟨ok,jR!,jj!,n0!,l8!,n1!,iE!,ln!,bs! (k8! (_ba _ hp)),eK!,lm!⟩
theorem Fly.land{s s':Shared} (un:Un mG! [] H H' I! gK!)(hok:HOk P w H' gK!)(fw:rA! B as! aR! a0 gK!) (cov:bD! (sx!=b! o->(H' b≠a!\/((∃o',fY! b o')/\b∉mG!))->B.get? b=b! o))(dL:rA! B as! aR! a0 h5)(sm:s'.heap.UpToSlots h5): sK! ea=a!/\ga! ea/\Un mG! [] H (upd H' ea (zlW C ea)) I! h5/\HOk P w (upd H' ea (zlW C ea)) h5/\∃oe,h5.get? ea=b! oe/\oe.cls=aR!:=by
 have k:=dL.1;obtain⟨oe,vs,T,oT,ts,he,⟨cu,_⟩,hd,_⟩:=dL.2.2.2;obtain⟨pT,fk,_,_,_,d9,_,gJ,_⟩:=fw.2.2.2;have new:sK! ea=a!:=by cases z:sK! ea with
  | none=>rfl | some o=>
   exfalso;obtain⟨o1,e1⟩:=un.there ea o z (by simp);by_cases hf:ea∈mG!
   ·obtain⟨_,o2,e2,cX⟩:=fw.2.2.1.mem hf;rw[d9]at e2;cases e2;exact cX _ gJ
   ·have:=cov ea o1 e1 (em! (aw! o z) hf);rw[fw.2.1]at this;cases this
 have hn:ga! ea:=by cases z:H' ea with
  | none=>rfl | some u=>
   have:=cov ea _ d9 (z! (by rw[z];simp));rw[fw.2.1]at this;cases this
 have fF:∀b u,H' b=b! u->b≠ea:=λb u e z=>by rw[z,hn]at e;cases e
 refine⟨new,hn,⟨λb o e n nf _=>(k b o (cov b o (un.keep b o e n nf (by simp)) (em! (dv! o) nf))),λb o e n hf _=>?_,λb o e n _=>?_,λb o e _=>?_,λb xs e=>?_,λb o u e=>?_,λb ps e=>?_⟩,λa o e=>?_,oe,he,cu⟩
 ·obtain⟨sl,e1⟩:=un.slot b o e n hf (by simp);obtain⟨_,o2,e2,cX⟩:=fw.2.2.1.mem hf;rw[e1]at e2;cases e2;obtain⟨cF,e3⟩:=sm b _ e1 cX;exact aw! cF e3
 ·rw[zM ((λb o e z=>by rw[z,new]at e;cases e) b o e)];exact un.free b o e n (by simp)
 ·by_cases hf:b∈mG!
  ·obtain⟨_,o2,e2,cX⟩:=fw.2.2.1.mem hf;obtain⟨cF,e3⟩:=sm b _ e2 cX;exact gy! e3
  ·obtain⟨o1,e1⟩:=un.there b o e (by simp);exact⟨o1,k b o1 (cov b o1 e1 (em! (dv! o) hf))⟩
 ·have q:=un.tups b xs e;rw[zM (fF b _ q)];exact q
 ·have q:=un.frzs b o u e;rw[zM (fF b _ q)];exact q
 ·obtain⟨more,q⟩:=un.tbls b ps e;exact⟨more,by rw[zM (fF b _ q)];exact q⟩
 ·by_cases z:a=ea
  ·subst z;rw[yB]at e;cases e;exact⟨⟨oe,vs,he,cu,hd⟩,aw! oe he,λh1 h2 ⟨o,ws,q1,q2,q3⟩ st=>⟨o,ws,st o q1,q2,q3⟩⟩
  ·rw[zM z]at e;refine (HOk.cov hok (λb o e n=>cov b o e (z! n)) k a o e).stay (λb u _ q=>q) (λb q=>?_) λb xs q=>?_;·rw[zM (fF b _ q)];exact q
   ·rw[zM (fF b _ q)];exact q
end
def zsT(K:W.Frag)(mg:Str->aL!)(x y:Str):k!:=∃C D,mg x=a0! C/\mg y=a0! D/\W.excIn K C bmV "ValueError.__new__"=d!/\W.excIn K D bmV "ValueError.__new__"=d!/\ ∀h₀:Heap,K.In h₀->∃bm N nm q bs hdct sn sub ab col dd k0 k1 k2 k3 k5,h₀.get? C=b! (excClassObj nm q C N bs bm hdct sn sub ab col dd k0 k1 k2 k3 k5 "ValueError.__new__")/\qj! (lh! C::bm) (u! D)=d!
section
variable {prog:Program}{w:World}{A:Around}{E:bX!}{s:Shared}{env:Env}
theorem z6x{e C D:Addr} {kH:ee! ExceptHandler} (h:cF! w (nA! e) (kf! t) (λc s₁=>c=u! D/\ (∃bm N nm q bs hdct sn sub ab col dd k0 k1 k2 k3 k5 aY,oZ! C (excClassObj nm q C N bs bm hdct sn sub ab col dd k0 k1 k2 k3 k5 aY)/\qj! (lh! C::bm) (u! D)=d!)/\ (∃bm N nm q bs hdct sn sub ab col dd k0 k1 k2 k3 k5 aY,oZ! D (excClassObj nm q D N bs bm hdct sn sub ab col dd k0 k1 k2 k3 k5 aY)/\bm.contains (av! "BaseException")=d!)/\(∃oe,oZ! e oe/\oe.cls=aR!)/\ cF! w (nA! e) (setFlight (u! e) a!) (λ_ s₂=> cF! w (nA! e) (storeName env n (u! e)) (λ_ s₃=> cF! w (nA! e) (execs (b₀::suite) env) (λf s₄=>cF! w A (do bindName env n aa!;unbindBehindTheSuite env n pos) (λ_ s₅=>Q f s₅) E s₄) (AsSuiteRaised h4! (nA! e) env n pos (notedBy h4! (nA! e) env (cameBackBy h4! A env E))) s₃) (notedBy h4! (nA! e) env (cameBackBy h4! A env E)) ma!) (notedBy h4! (nA! e) env (cameBackBy h4! A env E)) jk!) (notedBy h4! (nA! e) env (cameBackBy h4! A env E)) s): cF! w A (handleBy (u! e) env (.ExceptHandler (b! t) (b! n) (b₀::suite) pos::kH)) Q E s:=by
 refine wpAny_handleBy_cons (codeAny_handlers_test (_aa h (λc s₁ h₁=>?_) λ_ _ y=>y)) (by intro q;cases q);obtain⟨rfl,⟨bm,N,nm,q,bs,hdct,sn,sub,ab,col,dd,k0,k1,k2,k3,k5,aY,hC,bP⟩,⟨gB,N',lq,q',lu,dm,lA,fD,lB,fE,lC,lD,lE,lF,lG,lH,cM,hD,am⟩,⟨oe,he,cu⟩,hk⟩:=h₁;exact z0i hC hD he cu am bP (codeAny_handlers_suite_as hk)
end
noncomputable def zqr(cs:ao!)(fb:FS)(j:Nat)(fh:FS):FS:=eO! (match fb ρ s with
 | .ex c s1=>ac! (c∈cs) (match fh (gX! (oE! od!) j (.exc c)) s1 with
  | .ok (.rt d) s2=>bp! (.rt d) | _=>.no) | .ok (.rt d) s1=>P! (.rt d) | _=>.no)
section
variable {X:Cx}{E:XK}{pos fG np:Pos}
theorem ztA(dF:jh!=aT!::kz!) (aI:X.env.frame=b! jQ!) (cf:ll!=[]) (cT:∀c∈cs,zsT X.K fw! c y) (hg:it! y) (hN:X.N.Nodup) (hj:G! X.N j n) (dM:eU! n) (hb:∀(pn:List (Addr×Obj)) (xe:Value->Shared->Prop) (E1:XK),Passes (CX1 aO! X.w) (po! X pn xe) E1->RSs (po! X pn xe) E1 dF! fb) (hh:∀(e:Addr) (pn:List (Addr×Obj)),RSs (qG! X e pn) E0 (b₀::suite) fh) (aG:cm! (y==cP!)): RS X E (.Try dF! [.ExceptHandler (b! (.Name y np)) (b! n) (b₀::suite) fG] [] [] pos) (zqr cs fb j fh):=by
 intro ae s O H D I hw;obtain⟨Y,ρ,cr,r,en,h⟩:=hw;have ao:od!=X.N.length:=by rw[en.len,I.len]
 refine wpAny_Try_except ?_;generalize hEb:(λ(e:Value) (s₁:Shared)=>bO! (noteFrame e aT!) (λ_ s₂=>bO! (setFlight e a!) (λ_ s₃=>bO! (handleBy e aT! [.ExceptHandler (b! (.Name y np)) (b! n) (b₀::suite) fG]) (SP X ae D) s₃) ma!) jk!)=Eb;let E1:XK:=λv _ H'=>∃c Y' ay C d s2,v=aR!/\c∈cs/\X.mg c=a0! C/\vN C! H Y H' Y' ay/\fh (gX! (oE! od!) j (.exc c)) ay=bp! (.rt d)/\i2! C! H Y (FlD C!) (bp! (.rt d)) (zhZ D);have iw:Passes (CX1 aO! X.w) (po! X (iD!++ae) Eb) E1:=by
  intro pins' O' H1 s1 e s' I1 nJ;obtain⟨C,ea,H',he,fl,hE⟩:=nJ;subst he;obtain⟨c,Y',ay,C',d,s2,eC,cR,gC,stp,nK,ok⟩:=hE;cases eC;have J1:=I1.of_at;obtain⟨B,a0,fw,cov⟩:=fl.fly;have fw:rA! B (aT!::kz!) aR! a0 gK!:=by rw[<- dF];exact fw
  have un:Un (frs (aT!::kz!)) [] H1 H' qi! gK!:=by rw[<- dF];exact fl.un
  have land:∀h5,rA! B (aT!::kz!) aR! a0 h5->s'.heap.UpToSlots h5->ly! X ae O' (upd H' ea (zlW C ea)) ({s' with heap:=h5})/\ga! ea/\∃oe,h5.get? ea=b! oe/\oe.cls=aR!:=λh5 dL sm=>by
   obtain⟨_,hn,nM,iz,oe⟩:=Fly.land un fl.hok fw (by rw[<- dF];exact cov) dL sm;exact⟨J1.call' (s':={s' with heap:=h5}) (ch:=[]) fl.os (by rw[dF];exact nM) iz fl.bare (λb z=>o7! (by simp)),hn,oe⟩
  rw[<- hEb];refine wpAny_looks_onW (base:=B) (by rw[<- dF];exact J1.ok.frames) aI fw λh4 iA lI=>?_;refine wpAny_landsW iA λh5 dL lJ=>?_;obtain⟨I5,pU,nN⟩:=land h5 dL (lI.trans lJ);obtain⟨C2,D2,cn,nO,q1,q2,bP⟩:=cT c cR;rw[gC]at cn;cases cn;refine z6x (C:=C) (D:=D2) (z4m (X:=qG! X ea (iD!++ae)) I5.mk_ hg nO ⟨rfl,?_,?_,nN,?_⟩ aG)
  ·obtain⟨bm,N,nm,q,bs,hdct,sn,sub,ab,col,dd,k0,k1,k2,k3,k5,hC,hs⟩:=bP _ I5.kIn;exact⟨bm,N,nm,q,bs,hdct,sn,sub,ab,col,dd,k0,k1,k2,k3,k5,_,hC,hs⟩
  ·obtain⟨bm,N,nm,q,bs,hdct,sn,sub,ab,col,dd,k0,k1,k2,k3,k5,mN,hC,pV,gA,T⟩:=ziQ I5.kIn q2;exact⟨bm,N,nm,q,bs,hdct,sn,sub,ab,col,dd,k0,k1,k2,k3,k5,_,hC,T.hasType _bz.hasBase⟩
  ·refine lands_againW dL λh6 nP nQ=>?_;obtain⟨I6,nR,pW⟩:=land h6 nP (bb! (lI.trans lJ) nQ);refine z3k (X:=qG! X ea (iD!++ae)) I6.mk_ hN hj (z! dM) (show wV (u! ea) (u! ea) from rfl) (λs7 I7=>?_) (T! dM);have nS:vN C! H' Y' (upd H' ea (zlW C ea)) Y' ay:=vN.lay dH! nR (by intro vs z;cases z);have fH:=stp.trans nS;have nT:z0u C! (upd H' ea (zlW C ea)) Y' (gX! (oE! od!) j (.exc c)) (O'.set j (a0! ea)):=by
    refine⟨by rw[List.length_set,List.length_replicate,List.length_set,ao];exact J1.len.symm,λi d' hi=>?_⟩;by_cases z:j=i
    ·subst z;have lK:j<v! (md! od! (a!:rs!)):=by
      have:=cV! hi;simpa using this
     rw[_ai lK]at hi;cases hi;refine⟨u! ea,by rw[_ai (by rw[J1.len,<- ao];simpa using lK)],?_⟩;simp only[Den];exact gW! ea C gC yB
    ·rw[_ac z,_be]at hi;split at hi<;>cases hi
   have run:=hh ea (iD!++ae) [] s7 (O'.set j (a0! ea)) (upd H' ea (zlW C ea)) {nx:=iP!,rt:=D.rt} I7 ⟨Y',_,ay,fH.rep,nT,by
    rw[nK];intro fv H2 Y2 ag fd;cases fv with
    | rt v=>exact ok (.rt v) H2 Y2 (fH.trans ag) fd | _=>exact b5! (show False from fd)⟩;refine kW! run (λfl s8 q8=>?_) z.elim;cases fl with
   | ret u=>
    obtain⟨v,O8,H8,I8,rv,q8⟩:=q8;have J8:=I8.of_mk J1.ok;obtain⟨m,hn,_⟩:=J8.loc;refine wpAny_nameGoes (env:=X.env) dM hn (by rw[J1.ok.kind];rfl) λh9 m9 nU nV=>?_;exact⟨v,_,H8,J8.locals nU nV,rv,q8⟩ | next=>obtain⟨_,_,_,z⟩:=q8;exact z.elim | brk=>obtain⟨_,_,_,z⟩:=q8;exact z.elim | cont=>obtain⟨_,_,_,z⟩:=q8;exact z.elim
 have run:=hb (iD!++ae) Eb E1 iw [] s O H {nx:=iP!,rt:=D.rt} I.at_ ⟨Y,ρ,cr,r,en,?_⟩
 ·refine kW! run (λfl s1 q1=>?_) z;cases fl with
  | ret u=>
   obtain⟨v,O8,H8,I8,rv,q8⟩:=q1;exact⟨v,O8,H8,I8.of_at,rv,q8⟩ | next=>obtain⟨_,_,_,z⟩:=q1;exact z.elim | brk=>obtain⟨_,_,_,z⟩:=q1;exact z.elim | cont=>obtain⟨_,_,_,z⟩:=q1;exact z.elim
 ·unfold zqr at h;cases e:fb ρ cr with
  | no=>rw[e]at h;exact h.elim | ok fl s1=>
   rw[e]at h;cases fl with
   | rt d=>
    intro fv H2 Y2 ag fd;cases fv with
    | rt v=>exact h (.rt v) H2 Y2 ag fd | _=>exact b5! (show False from fd)
   | _=>exact h.elim
  | ex c s1=>
   rw[e]at h;intro H' Y' C stp gC;simp only at h;split at h
   ·rename_i cR;cases e2:fh (gX! (oE! od!) j (.exc c)) s1 with
    | no=>rw[e2]at h;exact h.elim | ex _ _=>rw[e2]at h;exact h.elim | ok fl s2=>
     rw[e2]at h;cases fl with
     | rt d=>exact⟨c,Y',s1,C,d,s2,rfl,cR,gC,stp,e2,h⟩ | _=>exact h.elim
   ·exact h.elim
end
end Dd
namespace PySem
open PySem.Sem (wp)
open PySem.W
structure ExcCls(K:Frag)(C:Addr):k! where
 ga:findIn K aR! "__getattribute__"=b! (hV! m0!)
 gh:findIn K aR! "__getattr__"=b! a!
 cl:findIn K aR! pb!=b! (b! oB!)
 ob:mroIn K C (av! "object")=b! d!
 be:mroIn K C (av! "BaseException")=b! d!
 ty:∃d cd sl,mZ! C=b! ⟨av! "type",d,.cls cd,sl⟩
section
variable {prog:Program}{w:World}{A:Around}{E:bX!}{K:Frag}{h:Heap}{g:rZ!}{d:Drawn}{t:Nat}{os:OsState}{a C:Addr}{o:Obj}
theorem zrg{M:Model}(hx:cJ! a)(hc:gk!=aR!):Looks M h (typeOf ag!) aR!:=by
 intro A' Q' E' s' k q;unfold typeOf;refine _a (wpAny_loadPart (k _ _ hx) ?_);rw[hc];exact _m q
theorem zap{R:Result->ey!}(X:hZ!)(Fx:pp! K C)(hx:cJ! a)(hc:gk!=aR!)(hq:R (l3! aR!) (e0! h g d t)): kC! h4! A (.call (.builtin "getset_descriptor.__get__") (dN! [oB!,ag!,aR!])) R (e0! h g d t):=by
 have lL:(e0! h g d t:nW!).TypeIs oB! "getset_descriptor":=_b6;have L1:=looks_mroIn (M:=h4!) X Fx.ob;rw[<- F.owner_object_class]at L1;refine codeAny_call_builtin F.slot_gs_get.plain F.entry_gs_get (F.slot_gs_get.check _ _ _ _ _ _ _ _ lL (F.args_gs_get _ _ _) ?_);repeat (any_goals (first | assumption | (with_reducible refine _aN hx ?_;rw[hc]) | (with_reducible refine L1.at ?_) | wp_step))
 refine⟨Code.quiet_builtin _ (by decide +kernel),codeAny_builtin F.entry_object_class ?_⟩;repeat (any_goals (first | assumption | (with_reducible refine _aN hx ?_;rw[hc]) | wp_step))
theorem z6a{tk:Tok}{Q:Fin->ey!}(X:hZ!)(Fx:pp! K C)(hx:cJ! a)(hc:gk!=aR!)(hq:Q (.done (.ret aR!)) (e0! h g d t)): cF! w A (Builtin.«object.__getattribute__» (dN! [ag!,.str pb! tk])) Q E (e0! h g d t):=by
 have lL:(e0! h g d t:nW!).TypeIs oB! "getset_descriptor":=_b6;have L4:=looks_findIn (M:=h4!) X Fx.cl;have f5:=_b6;have f6:=F.slot_gs_get.lookup;have f7:=F.slot_gs_set.lookup;repeat (any_goals (first | assumption | (with_reducible refine _aN hx ?_;rw[hc]) | (with_reducible refine L4.at ?_) | wp_step))
 refine zap X Fx hx hc ?_;repeat (any_goals (first | assumption | wp_step))
theorem zcL{M:Model}{dw:Value}{Q:Unit->ey!}(X:hZ!)(Fx:pp! K C)(hx:cJ! a)(hc:gk!=aR!)(hq:Q () (e0! h g d t)):wpAny M A (checkBuiltinCall m0! (dN! [ag!,dw])) Q E (e0! h g d t):=by
 have hk:builtinKind m0!=b! .slot:=by decide +kernel
 have dN:splitId m0!=b! ("BaseException","__getattribute__"):=by decide +kernel
 have L1:=looks_mroIn (M:=M) X Fx.be;have ha:=F.args_bexc_ga ag! dw;simp only[checkBuiltinCall,hk,dN];refine _a ?_
 ·unfold isInstance;repeat (first | (with_reducible refine _aN hx ?_;rw[hc]) | (with_reducible refine L1.at ?_) | wp_step)
  exact hq
theorem z89{tk:Tok}{R:Result->ey!}(X:hZ!)(Fx:pp! K C)(hx:cJ! a)(hc:gk!=aR!)(hq:R (l3! aR!) (e0! h g d t)): kC! h4! A (.call (.builtin m0!) (dN! [ag!,.str pb! tk])) R (e0! h g d t):= codeAny_call_builtin F.attrBase_ValueError.ga.plain F.entry_bexc_ga (zcL X Fx hx hc (z6a X Fx hx hc hq))
theorem zbO{tk:Tok}{fill dO:Bool}{Q:bX!}(X:hZ!)(Fx:pp! K C)(hx:cJ! a)(hc:gk!=aR!)(hq:Q aR! (e0! h g d t)): cF! w A (getAttrBy ag! (.str pb! tk) fill dO) Q E (e0! h g d t):=by
 have f3:=F.attrBase_ValueError.ga.bind ag!;have pX:(dO&&onTheHeap (Value.builtin m0!))=t!:=by cases dO<;>rfl
 have gD:(Value.builtin m0!==Value.builtin "object.__getattribute__")=t!:=by decide +kernel
 have iB:(onTheHeap (lh! C)&&Value.builtin m0!==Value.builtin "object.__getattribute__")=t!:=by rw[gD];rfl
 have L1:=looks_findIn (M:=h4!) X Fx.ga;have L2:=looks_findIn (M:=h4!) X Fx.gh;repeat (any_goals (first | assumption | (with_reducible refine _aN hx ?_;rw[hc]) | (with_reducible refine L1.at ?_) | (with_reducible refine L2.at ?_) | wp_step))
 refine z89 X Fx hx hc ?_;repeat (any_goals (first | assumption | wp_step))
theorem z8o{Q:aL!->ey!}(X:hZ!)(Fx:pp! K C)(hx:cJ! a)(hc:gk!=aR!)(hq:Q (a0! C) (e0! h g d (t+1))):cF! w A (getAttr? ag! pb!) Q E (e0! h g d t):=by
 unfold getAttr? getAttrBy?;repeat (any_goals (first | assumption | with_reducible apply zbO X Fx hx hc | (with_reducible refine _aN hx ?_;rw[hc]) | wp_step))
end
theorem zk9{K:Frag}{a C:Addr}(Fx:pp! K C):KitX K ag! aR! (λh=>∃o,cJ! a/\gk!=aR!) where
 ty:=λ_ _ _ ⟨_,hx,hc⟩=>zrg hx hc;it:=λ_ _ X _=>by
  obtain⟨dd,cd,sl,ho⟩:=Fx.ty;intro A' Q' E' s' k q;unfold isType loadHead;exact _a (wpAny_loadPart (k _ _ (X _ _ ho)) (_m q))
 ne:=λh tp dd af n sl X fI=>by
  obtain⟨d2,cd,cF,ho⟩:=Fx.ty;cases e:(lh! C==lh! tp) with
  | false=>rfl | true=>
   have e:=eq_of_beq e;cases e;have:=X _ _ ho;rw[fI]at this;simp at this
 ca:=λ{prog w A E Q s} X p hq=>by
  obtain⟨h,g,d,t,os⟩:=s;obtain⟨o,hx,hc⟩:=p;exact z8o X Fx hx hc hq
end PySem
namespace L2
section
variable {X:Cx}{ae:dh!}{O:St}{H:Hp}{s:Shared}{A:Around}{E:bX!}{Q:bX!}{b:Bool}
theorem zge(I:L!) (rx:wV x u) (ty:zcZ X.K H x t) (ht:H tp=b! (n! cs)) (e:∀af,xw cs af->W.kitAny X.K t af=b! b) (h:∀tk,Q k7! {s with toks:=tk}): gn! aO! X.w A (p0! gI! [u,u! tp]) Q E s:=by
 obtain⟨_,af,vi,o,g1,g2,_,n,g3⟩:=(gY! tp ht);have e:=e af vi;obtain⟨oc,od,oD,os⟩:=o;cases g2;cases g3;cases ty with
 | non=>cases (rx);exact _bt W.kitx_none jl! lq! g1 e (λz=>nomatch z) h | bl y=>cases (rx);exact _bt W.kitx_bool jl! lq! g1 e (λz=>nomatch z) h | int i=>obtain⟨t,q⟩:=(rx);cases q;exact _bt W.kitx_int jl! lq! g1 e (λz=>nomatch z) h | str y=>obtain⟨t,q⟩:=(rx);cases q;exact _bt W.kitx_str jl! lq! g1 e (λz=>nomatch z) h | flt y=>obtain⟨t,q⟩:=(rx);cases q;exact _bt W.kitx_float jl! lq! g1 e (λz=>nomatch z) h | @lst a xs ea=>
  cases (rx);obtain⟨_,_,n,_,h1⟩:=(gY! a ea);exact _bt W.kitx_list jl! (ca! h1) g1 e (λz=>nomatch z) h | @frz a ob xs ea=>
  cases (rx);obtain⟨_,_,_,n,_,h1⟩:=(gY! a ea);exact _bt W.kitx_list jl! (ca! h1) g1 e (λz=>nomatch z) h | @tup a xs ea=>
  cases (rx);obtain⟨_,_,_,p⟩:=(gY! a ea);obtain⟨o,h1,h2,_⟩:=p;exact _bt W.kitx_tuple jl! (cy! h1 h2) g1 e (λz=>nomatch z) h | @dK a ah ea=>
  cases (rx);obtain⟨_,_,vs,_,p⟩:=(gY! a ea);obtain⟨o,es,ep,h1,h2,_⟩:=p;exact _bt W.kitx_dict jl! (cy! h1 h2.1) g1 e (λz=>nomatch z) h | @dT a ah ea=>
  cases (rx);obtain⟨_,_,xs,_,o,es,ep,h1,h2,_⟩:=(gY! a ea);exact _bt W.kitx_dict jl! (cy! h1 h2.1) g1 e (λz=>nomatch z) h | @ins a C dx fs ea cl ha hn gc hm=>
  cases (rx);obtain⟨mA,Oo,_⟩:=zhP eK! ea;obtain⟨od,J,_⟩:=Oo.look;exact _bt (W.kitx_own (cl.get _) cl.hd ha hn gc hm) jl! J g1 e (λz=>nomatch z) h
end
theorem zcp: lX! X gI! (∃x t tp T U b,xs=[x,u! tp]/\H tp=b! (n! [.ty T,.ty U])/\zcZ X.K H x t/\W.kitAny X.K t [kk!,av! U]=b! b/\Q hD! H):=by
 intro ae s O H xs us Q I r h;obtain⟨x,t,tp,T,U,b,rfl,fI,ht,hk,q⟩:=h;obtain⟨u,v,rfl,ru,rv⟩:=vals2 r;cases rv;refine zge I ru ht fI (λaf vi=>?_) λtk=>bo! hD! H im! q;obtain⟨u1,u2,rfl,r1,r2⟩:=vals2 vi;cases r1;cases r2;exact hk
end L2
namespace Dd
open L2
section
variable {X:Cx}{E:XK}{e a b c tg:Expr}{es:aD!}{pos:Pos}{CX:CXT}
theorem zn8{K:W.Frag} (h:t∈["NoneType",fS!,et!,gj!,dr!,ef!,nG!])(hT:T∈[et!,fS!,gj!,dr!,ef!])(hU:U∈[et!,fS!,gj!,dr!,ef!]):W.kitAny K (av! t) [kk!,av! U]=b! (isT T t||isT U t):=by
 simp only[W.kitAny,ze3 h T hT,ze3 h U hU];cases isT T t<;>cases isT U t<;>rfl
noncomputable def zp3(T U:String):D->bm!:=λd s=>match tyD d with | some t=>aV! (isT T t||isT U t) | none=>.no
noncomputable def zp0(T U:String)(f:FE):FE:=eO! (eb! (zp3 T U d s1))
theorem ztp{p p1 p2 pt:Pos}{k:Nat} (hT:T∈[et!,fS!,gj!,dr!,ef!])(hU:U∈[et!,fS!,gj!,dr!,ef!])(hv:kO! tn kk!)(nW:kO! un (av! U))(hg:it! gI!)(hm:dM! gI!)(nX:it! tn)(lM:dM! tn)(cL:it! un)(cn:dM! un)(he:fq! f) (hn:j1! (lQ! tn))(hd:cm! (tn==cP!))(fj:j1! (lQ! un))(eS:cm! (un==cP!)) (hs:y! (au! [e,hF! [.Name tn p1,fI! un] k pt]=dW!::au! [hF! [.Name tn p1,fI! un] k pt]))(au:ea! [hF! [.Name tn p1,fI! un] k pt] (·.1)): X! (do! gI! p [e,hF! [.Name tn p1,fI! un] k pt]) (zp0 T U f):= yq (z3x zcp hg hm (by decide +kernel) (va he (va (zlH (va (za9 nX lM hv (show wV (.ty T) kk! from rfl) hn hd) (va (za9 cL cn nW (show wV (.ty U) (av! U) from rfl) fj eS) z1b (zu ..)) (zu ..))) z1b (zez ..)) hs) (by decide) (by decide) hs au) λO H Q ⟨Y,ρ,s,r,en,h⟩=>by
  refine yS (k:=kF! (zp3 T U d s1)) r en h _ λv H1 Y1 s1 d r1 av dn stp h1=>?_;unfold zp3 at h1;split at h1
  ·rename_i t et;refine⟨(show 2<=aS! from by decide +kernel),λtp fI=>?_⟩;have bn:=vN.lay (o:=n! [.ty T,.ty U]) r1 fI (by intro _ z;cases z);obtain⟨q1,q2⟩:=zm6 bn.rep (rH! bn) et;exact⟨v,av! t,tp,T,U,isT T t||isT U t,rfl,yB,q1,zn8 q2 hT hU,h1 _ _ _ bn wS⟩
  ·exact h1.elim
end
end Dd
namespace L2
open MeetsSeq MeetsSeq2 SeqAt
def zrc(k:Bool):eG! dX!
 | .bool b=>b==k | _=>false
theorem zar:∀{bs:List Bool}{af:List Value},xw (bs.map V.bl) af->af=bs.map Value.bool
 | [],_,.nil=>rfl | b::bs,_,.cons r rs=>by
  cases r;rw[zar rs];rfl
theorem zmj:∀(bs:List Bool)(k:Bool)(m:Nat)(hm:m<bs.length),m<r8!->(bs[m]==k)=t!
 | [],k,m,hm,_=>cN! hm (by simp) | b::bs,k,m,hm,h=>by
  rw[List.idxOf_cons]at h;cases e:b==k with
  | true=>rw[e]at h;simp at h | false=>
   rw[e]at h;cases m with
   | zero=>simpa using e | succ m=>simpa using zmj bs k m (by simpa using hm) (by simpa using h)
section
variable {X:Cx}
def zsN:V->aM!->Hp->eE!:=λx vs H Q=>∃(p:Addr)(bs:List Bool)(k:Bool),x=cn!/\vs=[.bl k]/\Rd H p (W! (bs.map V.bl))/\Q (c! (bs.count k:Nat)) H
theorem ze2:MtR X "list.count" zsN:=by
 intro ae s O H x vs v us Q I rx rv h;obtain⟨p,bs,k,rfl,rfl,hp,q⟩:=h;cases rx;obtain⟨u,rfl,ru⟩:=vals1 rv;cases ru;obtain⟨_,af,n,r,e1⟩:=hp.ok eK!;cases zar r;refine _bj PySem.F.slot_list_count (ca! e1) PySem.F.entry_list_count (PySem.F.args_list_count_2 _ _) (list_countAt p _ n _ _ (.bool k) (zrc k)) ⟨e1,cs! ?_,?_⟩
 ·obtain⟨b,_,rfl⟩:=_t.mp (_do.mp hy);exact EqAt.bool_bool b k
 ·have e:(List.map Value.bool bs).countP (zrc k)=bs.count k:=by rw[List.countP_map];rfl
  refine⟨c! (bs.count k),H,mc! (gJ! e),aw! fU! ?_,q⟩;rw[<- e]
def zt6:V->aM!->Hp->eE!:=λx vs H Q=>∃(p:Addr)(bs:List Bool)(k:Bool),x=cn!/\vs=[.bl k]/\Rd H p (W! (bs.map V.bl))/\k∈bs/\qx!<2 ^ 62/\Q (c! (r8!:Nat)) H
theorem zdy:MtR X "list.index" zt6:=by
 intro ae s O H x vs v us Q I rx rv h;obtain⟨p,bs,k,rfl,rfl,hp,hk,hl,q⟩:=h;cases rx;obtain⟨u,rfl,ru⟩:=vals1 rv;cases ru;obtain⟨_,af,n,r,e1⟩:=hp.ok eK!;cases zar r;have hj:r8!<qx!:=List.idxOf_lt_length_iff.mpr hk;refine _bj PySem.F.slot_list_index (ca! e1) PySem.F.entry_list_index (PySem.F.args_list_index_2 _ _) (list_indexAt p _ n _ _ (.bool k) (zrc k) r8! (by simpa using hj) (by lia) ?_ ?_) ⟨e1,cs! ?_,⟨c! r8!,H,mc! (gJ! e),cf! fU!,q⟩⟩;·simp[zrc,(_cI hj)]
 ·intro m hm bF;simpa[zrc] using (zmj bs k m (by simpa using hm) bF)
 ·obtain⟨b,_,rfl⟩:=_t.mp (_do.mp hy);exact EqAt.bool_bool b k
end
end L2
namespace Dd
open L2
section
variable {X:Cx}{E:XK}{o e:Expr}{pos:Pos}
noncomputable def zqD(fo fv:FE):FE:=b7! (fo ρ s) (λo s1=>match o with
 | .lst ds=>A! (fv ρ s1) (λd s2=>match oi! ds,d with
  | some ns,.bl k=>bp! (c! (ns.count k:Nat)) | _,_=>.no)
 | _=>.no)
theorem zjt{ap:Pos} (ho:X! o fo)(hv:fq! fv)(am:y! (lL! o "count" gC!=gC!)) (aH:di! (ht! (hO! pos [e]) (! x.1)&&ht! (nF! pos []) (gl! x.1) && a5! (v! [e]+v! ([]:gU!)+(nv! ([]:gU!) 0 1)<30))) (ai:di! (sp! n4!))(hs:y! (au! [e]=dW!::au! []))(aw:ea! [] (·.1)): X! (fz! (mB! o "count") [e] [] pos) (zqD fo fv):= yq (zoz _bT PySem.F.slot_list_count PySem.F.type_list_count ze2 ho (va hv z1b hs) am aH ai hs aw) λO H Q ⟨Y,ρ,s,r,en,h⟩=>by
  refine⟨Y,ρ,s,r,en,(okR.bind (Dn:=ki!) h).imp λov H1 ⟨Y1,s1,od,stp,dn,h1⟩=>?_⟩;cases od with
  | lst ds=>
   refine aw! (by
    obtain⟨a,ob,vs,rfl,e1,_⟩:=dn;exact z! ⟨rfl,vs,z! (em! ob e1)⟩) ⟨Y1,ρ,s1,dH!,if!,(okR.bind (Dn:=ki!) h1).imp λv H2 ⟨Y2,s2,d,ag,ax,h2⟩=>?_⟩;split at h2
   ·rename_i ns k ei;cases z0B ax;obtain⟨a,ob,vs,rfl,e1,e2⟩:=lS!;rw[z5Q ei]at e2;cases z5K e2;exact⟨a,ns,k,rfl,rfl,em! ob e1,h2.here jp! yK⟩
   ·exact h2.elim | _=>exact h1.elim
noncomputable def zqt(fo fv:FE):FE:=b7! (fo ρ s) (λo s1=>match o with
 | .lst ds=>A! (fv ρ s1) (λd s2=>match oi! ds,d with
  | some ns,.bl k=>ac! (k∈ns/\fA!<2 ^ 62) (bp! (c! (pX!:Nat))) | _,_=>.no)
 | _=>.no)
theorem zkM{ap:Pos} (ho:X! o fo)(hv:fq! fv)(am:y! (lL! o "index" gC!=gC!)) (aH:di! (ht! (hO! pos [e]) (! x.1)&&ht! (nF! pos []) (gl! x.1) && a5! (v! [e]+v! ([]:gU!)+(nv! ([]:gU!) 0 1)<30))) (ai:di! (sp! n4!))(hs:y! (au! [e]=dW!::au! []))(aw:ea! [] (·.1)): X! (fz! (mB! o "index") [e] [] pos) (zqt fo fv):= yq (zoz _bT PySem.F.slot_list_index PySem.F.type_list_index zdy ho (va hv z1b hs) am aH ai hs aw) λO H Q ⟨Y,ρ,s,r,en,h⟩=>by
  refine⟨Y,ρ,s,r,en,(okR.bind (Dn:=ki!) h).imp λov H1 ⟨Y1,s1,od,stp,dn,h1⟩=>?_⟩;cases od with
  | lst ds=>
   refine aw! (by
    obtain⟨a,ob,vs,rfl,e1,_⟩:=dn;exact z! ⟨rfl,vs,z! (em! ob e1)⟩) ⟨Y1,ρ,s1,dH!,if!,(okR.bind (Dn:=ki!) h1).imp λv H2 ⟨Y2,s2,d,ag,ax,h2⟩=>?_⟩;split at h2
   ·rename_i ns k ei;split at h2
    ·rename_i hk;cases z0B ax;obtain⟨a,ob,vs,rfl,e1,e2⟩:=lS!;rw[z5Q ei]at e2;cases z5K e2;exact⟨a,ns,k,rfl,rfl,em! ob e1,hk.1,hk.2,h2.here jp! yK⟩
    ·exact h2.elim
   ·exact h2.elim | _=>exact h1.elim
end
end Dd
namespace L2
structure kq(k:Nat)(A:Around):k! where
 dp:ql!+3*k+5<recursionLimit
 un:ph!+16*k+200<ng!
 gd:A.guards=b! []
theorem z2z.h{k:Nat}{A:Around}(r:z2z k A):kq k A:=aN! r.dp r.un r.gd
theorem kq.mono{j k:Nat}{A:Around}(r:kq k A)(h:j<=k):kq j A:=⟨by have:=r.dp;omega,by have:=r.un;omega,r.gd⟩
theorem kq.deeper{k:Nat}{A:Around}(r:kq (k+1) A)(env:Env):kq k (A.deeper env):= ⟨by have:=r.dp;show ql!+1+3*k+5<_;omega,by have:=r.un;show ph!+3+16*k+200<_;omega,r.gd⟩
theorem kq.depth{k:Nat}{A:Around}(r:kq k A):ql!<recursionLimit:=by have:=r.dp;omega
theorem kq.units{k:Nat}{A:Around}(r:kq k A):ph!+64<ng!:=by have:=r.un;omega
structure zil(P:Program)(w:World)(K:W.Frag)(mg:Str->aL!)(base:Heap)(CX:CXT)(k:Nat)(f:Addr)(fd:FuncData)(ps:ao!)(sp:Sp):k! where
 len:∀vs H Q E,sp vs H Q E->mw!
 run:∀(A:Around)(outer:List Env)(s:Shared)(H:Hp)(args:Args)(us:List Value)(vs:List V)(Q:VK)(E:XK),kq k A->zrJ P w K mg R! A as! s H->qm! s fd jS! lV!->kh! vs->sp vs H Q E-> kC! (model P w) A (.call (u! f) jS!) (CR CX as! P w H s Q E) s
theorem zp9{CX:CXT} {P:Program} {w:World} {K:W.Frag} {mg:Str->aL!} {base:Heap} {k:Nat} {f:Addr} {name qual:Str} {params:Arguments} {body:ny!} {scope:Scope} {dV kV aE pm aj ct oc:Value} {an od:oR!} {cD:Array aL!} {N ps:ao!} {sp:Sp} (lk:mZ! f=b! ⟨oc,od,.func (W.fnOf iG! at! params dF! by! dV kV aE pm an aj ct),cD⟩) (bz:W.codeIn K aj at!=d!) (S:zx N ps by!) (len:∀vs H Q E,sp vs H Q E->mw!) (bf:∀(A:Around) (outer:List Env) (s:Shared) (H:Hp) (vs:List V) (Q:VK) (E:XK),kq k (kd! at! by! f aj)->sp vs H Q E-> ∃t,PSs (z5v CX P w K mg R! N at! by! f aj A as! s H E) dF! t/\t {nx:=λ_ H'=>Q an! H',rt:=Q} (o9! N) H): zil P w K mg R! CX (k+1) f (W.fnOf iG! at! params dF! by! dV kV aE pm an aj ct) ps sp:=by
 refine⟨len,λA outer s H args us vs Q E hr e0 hb r cE=>?_⟩;have hl:=len _ _ _ _ cE;have KX:K.In I!:=e0.mod.kin.keeps (gJ! (e0.bs b o e).1);have nY:s.heap.NoLimit:=e0.mod.nolimit.keeps (gJ! (e0.bs b o e).1);have fJ:∀y∈lV!,jT! y.1=b! pd!\/(jT! y.1=dz!/\gl! (n6! (mr! dU! []) y.1)=d!):=λ⟨n,v⟩ hy=>by
  rcases S.par n (_af hy).1 with q | q;·exact z! q
  ·exact em! q (_dg _ _ _ (z! q))
 refine codeAny_call_function hr.depth (KX _ _ lk) rfl S.co S.gen rfl (W.codeRec_of KX bz) (hb _ _ _ _ ?_);refine wpAny_newFunctionEnv_cells S.kind fJ λenv he s1 x=>?_;subst he;refine⟨nY.keeps x.toInCall.keep,codeAny_func ?_⟩;obtain⟨t,ht,hq⟩:=bf A as! s H vs Q E (hr.deeper _) cE;have I:Inv (z5v CX P w K mg R! N at! by! f aj A as! s H E) [] (o9! N) H s1:=zbV S e0 hl r x;refine _aa (ht [] s1 (o9! N) H _ I hq) (λfl s' hs=>?_) λe s' hs=>hs;have fin:∀{O':St} {H':Hp} {v:V} {u:Value},Inv (z5v CX P w K mg R! N at! by! f aj A as! s H E) [] O' H' s'->wV v u->Q v H'->CE as! P w H s Q u s':= λ{O' H' v u} J rv q=>⟨v,H',J.os,J.bare,J.base,J.hok,rv,q⟩;cases fl with
 | ret u=>
  obtain⟨v,O',H',J,rv,q⟩:=hs;exact fin J rv q | next=>
  obtain⟨O',H',J,q⟩:=hs;exact fin (v:=V.non) (u:=Value.none) J rfl q | brk=>
  obtain⟨_,_,_,q⟩:=hs;exact mb! q | cont=>
  obtain⟨_,_,_,q⟩:=hs;exact mb! q
section
variable {X:Cx}{CX:CXT}{k:Nat}{f:Addr}{fd:FuncData}{ps:ao!}{sp:Sp}{ds:c3!}{bL:aM!}{E:XK}{x:Str}{p pos:Pos}{e:Expr}{es:aD!}{t:TA}
theorem zni{ae:dh!}{O:St}{H:Hp}{s:Shared}{Q:VK}{us:c3!}{vs:aM!}(F:zil aO! X.w X.K fw! fa! CX k f fd ps sp)(hr:kq k X.A)(hb:km! X.K ps ds)(hd:xw bL ds)(hx:kV! X E) (I:L!)(r:kh! vs)(h:sp (vs++bL) H Q E):bO! (call (u! f) us) (EP X ae O Q) s:=by
 have r2:xw (vs++bL) (us++ds):=r.append hd;have hl:v! (us++ds)=a2!:=by rw[<- r2.length];exact F.len _ _ _ _ h
 refine wpAny_call (_dy (F.run X.A jh! s H (dN! us) (us++ds) (vs++bL) Q E hr I.env0 (hb s us jl! hl) r2 h) λr s' hq=>?_);cases r with
 | error e=>exact hx ae O H s e s' I hq | ok fl=> cases fl with
  | ret u=>exact I.after hq | next=>exact ro! | brk=>exact ro! | cont=>exact ro!
theorem zjE(F:zil aO! X.w X.K fw! fa! CX k f fd ps sp) (hr:kq k X.A) (hg:e6!) (hm:X.mg x=a0! f) (hk:oV! X.K f=d!) (hb:km! X.K ps ds) (hd:xw bL ds) (hx:kV! X E) (ha:PA X (e::es) t) (aG:cm! (x==cP!)) (he:y! (au! (e::es)=dW!::ir!)) (au:ea! es (·.1)): V! (do! x p (e::es)) (znb sp bL E t):=by
 intro ae s O H Q I h;refine _as (z4m I hg hm ?_ aG);refine _dz (h₀:=X.base) I.ok.mod.kin hk (thn (ha pos ae s O H _ I h) λus s1 ⟨vs,H1,I1,r,q⟩=>aw! I1.kIn ?_) he au;exact zni F hr hb hd hx I1 r q
end
section
variable {P:Program}{w:World}{K:W.Frag}{mg:Str->aL!}{base:Heap}
theorem Fun.okH{x qual:Str}{st:Stmt}{f:Addr}{fd:FuncData}{N ps:ao!}{k:Nat}{sp:Sp}(F:Fun K x at! st f fd)(S:S! N ps st)(len:∀vs H Q E,sp vs H Q E->mw!) (bf:∀(aj:Value)(A:Around)(outer:List Env)(s:Shared)(H:Hp)(vs:List V)(Q:VK)(E:XK),kq k (kd! at! c6! f aj)->sp vs H Q E-> ∃t,PSs (z5v CX0 P w K mg R! N at! c6! f aj A as! s H E).nox h2! t/\t {nx:=λ_ H'=>Q an! H',rt:=Q} (o9! N) H):zil P w K mg R! CX0 (k+1) f fd ps sp:=by
 obtain⟨oc,od,kV,aE,pm,an,aj,ct,cD,rfl,lk,bz⟩:=F.ex;refine zp9 lk bz S len λA outer s H vs Q E hr cE=>?_;obtain⟨t,h,q⟩:=bf aj A as! s H vs Q E hr cE;exact aN! t h.nox q
end
end L2
namespace Dd
open L2
def zrN(P:Program)(w:World)(K:W.Frag)(mg:Str->aL!)(base:Heap)(CX:CXT)(x:Str)(n:Nat)(M:Mir):k!:= ∃f fd ps,zil P w K mg R! CX n f fd ps (zjR ⟨mg,K⟩ M)/\km! K ps []/\oV! K f=d!/\mg x=a0! f
section
variable {X:Cx}{E:XK}{e:Expr}{es:aD!}{pos:Pos}{CX:CXT}
theorem zow{x:Str} {p:Pos} {n:Nat} {M:Mir} {f:FA} (F:zrN aO! X.w X.K fw! fa! CX x n M) (hr:kq n X.A) (hx:kV! X E) (hg:e6!) (ha:RA X E (e::es) f) (aG:cm! (x==cP!)) (he:y! (au! (e::es)=dW!::ir!)) (au:ea! es (·.1)):X! (do! x p (e::es)) (zg M f):=by
 obtain⟨fa,fd,ps,F,hb,hk,hm⟩:=F;refine yq (zjE F hr hg hm hk hb cB! hx ha aG he au) λO H Q ⟨Y,ρ,s,r,en,h⟩=>?_;refine je (k:=nm! (M xs s1)) r en h _ λvs H2 Y2 s2 ds r2 aZ ax ag h3=>?_;rw[_aK];exact⟨Y2,s2,ds,r2,ax,h3⟩
end
section
variable {P:Program}{w:World}{K:W.Frag}{mg:Str->aL!}{base:Heap}
theorem znO{x qual:Str}{st:Stmt}{f:Addr}{fd:FuncData}{N ps:ao!}{k n:Nat}{fs:FS}(F:Fun K x at! st f fd)(hm:mg x=a0! f)(hb:km! K ps [])(S:S! N ps st)(hn:a2!=n) (body:sk! (kq k (kd! at! c6! f aj)) (RSs (z5v CX0 P w K mg R! N at! c6! f aj A as! s H E).nox E0 h2! fs)):zrN P w K mg R! CX0 x (k+1) (Mof N n fs):=by
 subst hn;refine⟨f,fd,ps,F.okH S (qB! ?_) (λaj A outer s H vs Q E hr h=>?_),hb,F.kp,hm⟩
 ·obtain⟨Y,s,ds,_,dn,h⟩:=h;unfold Mof at h;split at h;·rename_i e;rw[dn.length];exact e
  ·exact h.elim
 ·obtain⟨Y,cr,ds,r,dn,h⟩:=h;refine⟨_,body aj A as! s H E hr,Y,zy N ds,cr,r,z1D dn,?_⟩;unfold Mof at h;split at h
  ·split at h
   ·rename_i d s' e;rw[e];intro fv H' Y' stp fd;cases fv with
    | rt v=>exact h v H' Y' stp fd | _=>exact b5! (show False from fd)
   ·rename_i ρ s' e;rw[e];intro fv H' Y' stp fd;cases fv with
    | nx v=>exact h an! H' Y' stp rfl | _=>exact b5! (show False from fd)
   ·exact h.elim
  ·exact h.elim
end
theorem z50: lX! X gI! (∃(a C:Addr)(y:V)(b:Bool),xs=[ag!,y]/\cq! (zlW C a)/\PySem.ExcCls X.K C/\(∀c,wV y c->m1! X.K aR! c=b! b)/\Q hD! H):=by
 intro ae s O H xs us Q I r h;obtain⟨a,C,y,b,rfl,ha,hc,hk,q⟩:=h;obtain⟨u,v,rfl,ru,rv⟩:=vals2 r;cases ru;obtain⟨⟨o,vs,h1,h2,_⟩,_⟩:=(gY! a ha);exact k9! (PySem.zk9 hc) (cy! h1 h2) (hk v rv) (λz=>nomatch z) (λtk=>bo! hD! H im! q)
structure zep(mg:Gm)(rs cs:ao!):k! where
 cls:∀c∈rs,∀C,mg.m c=a0! C->PySem.ExcCls nk! C
 has:∀d∈cs,∃D,mg.m d=a0! D
 one:∀c∈rs,∀d∈cs,∀C D,mg.m c=a0! C->mg.m d=a0! D->m1! nk! aR! (u! D)=b! (c==d)
 val:∀c∈rs,∀C,mg.m c=a0! C->m1! nk! aR! (av! iy!)=b! d!
def zt3(rs:ao!)(T:Str):D->bm!
 | .exc c,s=>ac! (c∈rs) (aV! (c==T)) | _,_=>.no
noncomputable def zaP(rs:ao!)(T:Str)(f:FE):FE:=eO! (eb! (zt3 rs T d s1))
def zt5(rs:ao!):D->bm!
 | .exc c,s=>ac! (c∈rs) cj! | _,_=>.no
noncomputable def zv5(rs:ao!)(f:FE):FE:=eO! (eb! (zt5 rs d s1))
section
variable {X:Cx}{E:XK}{e:Expr}{pos:Pos}
theorem z1t{p p2:Pos} (FM:zep C! rs cs)(hT:T∈cs)(hg:it! gI!)(hm:dM! gI!)(cL:it! T)(he:fq! f) (hd:cm! (T==cP!)) (hs:y! (au! [e,fI! T]=dW!::au! [fI! T]))(au:ea! [fI! T] (·.1)):X! (do! gI! p [e,fI! T]) (zaP rs T f):=by
 obtain⟨D,hD⟩:=FM.has T hT;exact yq (z3x z50 hg hm (by decide +kernel) (va he (va (z7n cL hD (show wV (u! D) (u! D) from rfl) hd) z1b (zu ..)) hs) (by decide) (by decide) hs au) λO H Q ⟨Y,ρ,s,r,en,h⟩=>by
  refine yS (k:=kF! (zt3 rs T d s1)) r en h _ λv H1 Y1 s1 d r1 av dn stp h1=>?_;unfold zt3 at h1;split at h1
  ·rename_i c;split at h1
   ·rename_i hc;obtain⟨a,C,rfl,hC,hH⟩:=dn;exact⟨a,C,u! D,c==T,rfl,hH,FM.cls c hc C hC,λz hz=>by cases hz;exact FM.one c hc T hT C D hC hD,okR.here (b:=V.bl (c==T)) h1 r1 wS⟩
   ·exact h1.elim
  ·exact h1.elim
theorem zsh{p p2:Pos} (FM:zep C! rs cs)(hg:it! gI!)(hm:dM! gI!)(cL:it! iy!)(cn:dM! iy!)(he:fq! f) (hs:y! (au! [e,fI! iy!]=dW!::au! [fI! iy!]))(au:ea! [fI! iy!] (·.1)):X! (do! gI! p [e,fI! iy!]) (zv5 rs f):= yq (z3x z50 hg hm (by decide +kernel) (va he (va (za9 cL cn (by decide +kernel) (show wV (.ty iy!) (av! iy!) from rfl)) z1b (zu ..)) hs) (by decide) (by decide) hs au) λO H Q ⟨Y,ρ,s,r,en,h⟩=>by
  refine yS (k:=kF! (zt5 rs d s1)) r en h _ λv H1 Y1 s1 d r1 av dn stp h1=>?_;unfold zt5 at h1;split at h1
  ·rename_i c;split at h1
   ·rename_i hc;obtain⟨a,C,rfl,hC,hH⟩:=dn;exact⟨a,C,.ty iy!,d!,rfl,hH,FM.cls c hc C hC,λz hz=>by cases hz;exact FM.val c hc C hC,okR.here (b:=V.bl d!) h1 r1 wS⟩
   ·exact h1.elim
  ·exact h1.elim
end
section
variable {X:Cx}{E:XK}{e a b:Expr}{es:aD!}{pos:Pos}{CX:CXT}
theorem zt8(hg:e6!)(hm:X.mg x=a0! g)(hd:cm! (x==cP!)):X! (fe! p) (eC (.fn x)):= yq (z7n hg hm (show wV (u! g) (u! g) from rfl) hd) λO H Q ⟨Y,ρ,s,r,en,h⟩=>gV! h (aB! g hm)
theorem zr9(F:Has aO! X.w X.K fw! fa! CX x n M)(hg:e6!)(hd:cm! (x==cP!)):X! (fe! p) (eC (.fn x)):=by
 obtain⟨f,_,_,_,_,_,hm⟩:=F;exact zt8 hg hm hd
noncomputable def ziL(g:FE)(Ms:dL! Mir)(f:FA):FE:=b7! (g ρ s) (λd s1=>match d with
 | .fn y=>match pW! with
  | some M=>A! (f ρ s1) (λxs s2=>M xs s2) | none=>.no
 | _=>.no)
theorem zoS{Ms:dL! Mir} (F:∀y M,pW!=b! M->Has aO! X.w X.K fw! fa! CX y n M) (hr:z2z n X.A) (iq:kV! X E) (hg:X! (rE! b sp) g) (ha:RA X E (e::es) f) (he:y! (au! (e::es)=dW!::ir!)) (au:ea! es (·.1)):X! (fz! (rE! b sp) (e::es) [] pos) (ziL g Ms f):=by
 intro ae s O H Q I ⟨Y,ρ,st,r,en,h⟩;refine _a (thn (hg ae s O H (λv H1=>∃Y1 s1 d,vN C! H Y H1 Y1 s1/\Den C! H1 Y1 d v/\i2! C! H1 Y1 ki! (match d with
  | .fn y=>match pW! with
   | some M=>A! (f ρ s1) (λxs s2=>M xs s2) | none=>.no
  | _=>.no) Q) I ⟨Y,ρ,st,r,en,(okR.bind (Dn:=ki!) h).imp λv H1 q=>q⟩) λu s1 ⟨v,H1,I1,r1,Y1,nZ,d,stp,dn,h1⟩=>?_);split at h1
 ·rename_i y;split at h1
  ·rename_i M hM;obtain⟨gg,rfl,cV⟩:=dn;cases r1;obtain⟨fa,fd,ps,Fk,hb,hk,hm⟩:=F y M hM;have e0:gg=fa:=by cases cV.symm.trans hm;rfl
   subst e0;exact _dz (h₀:=X.base) I1.ok.mod.kin hk (thn (ha pos ae s1 O H1 (λvs H2=>zjR C! M (vs++[]) H2 Q E) I1 (je (k:=nm! (M xs s1)) stp.rep if! h1 _ λvs H2 Y2 s2 ds r2 aZ ax ag h3=>by
    rw[_aK];exact⟨Y2,s2,ds,r2,ax,h3⟩)) λus s2 ⟨vs,H2,I2,r2,q⟩=>aw! I2.kIn (zfp Fk hr hb cB! iq I2 r2 q)) he au
  ·exact h1.elim
 ·exact h1.elim
end
end Dd
namespace PySem
open PySem.AutoSeq1 (wpAny_loadPart')
open MeetsSeq MeetsSeq2 SeqAt
theorem zbc(l:Addr) (items:cD!) (n:Nat) (dd:oR!) (sl:Array aL!) (x:Int) (u:Tok) (h2:2<=x) (hx:x<2 ^ 63) (dj:items.isEmpty=t!) (hc:¬ j! hH!*x > (2 ^ 63-1) / 8) (ht:Builtin.Tuple.tupleTooMany (j! hH!*x)=t!) (hs:((md! ol! hf!).foldl (· ++ ·) #[]).size<=aS!): Meets (Builtin.«tuple.__mul__» (dN! [eD!,bx! x u])) (λA R s=>fY! l ({cls:=dK!,dict:=dd,data:=.seq hf! n,slots:=sl})/\R (l3! fZ!) {s with heap:=h7! ({cls:=dK!,data:=.seq ((md! ol! hf!).foldl (· ++ ·) #[])})}):= rj! (by
  obtain⟨hl,h⟩:=h;have e1:(x==1)=t!:=by simp;lia
  have e2:jP! x 0=t!:=by simp;lia
  wp_walk using _au hl;rw[_o (by simp;lia)];wp_walk using _au hl;rw[_o hc];wp_walk;exact aB! _ h)
theorem z9J(l:Addr)(items:cD!)(n:Nat)(dd:oR!)(sl:Array aL!)(u:Tok): Meets (Builtin.«tuple.__mul__» (dN! [eD!,bx! 1 u])) (λA R s=>fY! l ({cls:=dK!,dict:=dd,data:=.seq hf! n,slots:=sl})/\R (l3! eD!) s):= rj! (by
  obtain⟨hl,h⟩:=h;wp_walk using _au hl;exact aB! _ h)
theorem z0G:fillsNumberSlot dK! "mul"=mE!:= fillsNumberSlot_seq (id:="tuple.__mul__") (r:=hV! "tuple.__rmul__") _cc.lookup (by decide +kernel) F.slot_tuple_rmul.lookup (by decide +kernel)
theorem z4V:seqRepeat? dK!=dY! (hV! "tuple.__mul__"):=by
 unfold seqRepeat?;rw[seqSlot_of (T:=dr!) (name:="__mul__") (id:="tuple.__mul__") _cc.lookup (by decide +kernel),seqSlot_of (T:=dr!) (name:="__rmul__") (id:="tuple.__rmul__") F.slot_tuple_rmul.lookup (by decide +kernel)];rfl
theorem kC(a:Int)(t:Tok)(l:Addr)(items:cD!)(n:Nat)(dd:oR!)(sl:Array aL!): Meets (Builtin.«int.__rmul__» (dN! [bS! a,eD!])) (λ_ R s=>fY! l ({cls:=dK!,dict:=dd,data:=.seq hf! n,slots:=sl})/\R (l3! Value.notImplemented) s):= rj! (by obtain⟨hl,h⟩:=h;wp_walk;exact aB! _ h)
end PySem
namespace L2
section
variable {X:Cx}
def zu0:R2:=hG! (∃l k xs,x=eD!/\y=c! k/\H l=b! ap!/\1<=k/\a1! xs/\w!*dZ!<=aS!/\ ((k=1->Q eD! H)/\∀p,gG!->Q cn! (fP! (n! (hN! dZ! xs)))))
theorem zoO:nD! zu0:=by
 intro ae s O H x y v u Q I rx ry h;obtain⟨l,k,xs,rfl,rfl,hH,h1,dj,hz,q1,q⟩:=h;cases rx;obtain⟨t,rfl⟩:=ry;obtain⟨z,af,r,o,e,c1,d1,n,w1⟩:=(gY! l hH);obtain⟨cls,dd,data,sl⟩:=o;subst c1 d1 w1;have hl:w!=jU!:=by have:=r.length;lia
 have hp:0<jU!:=by rw[<- hl];exact _bH.mpr dj
 have hk:ez! dZ!=k:=by lia
 have ao:jU!*dZ!<=aS!:=by rw[<- hl];exact hz
 have oa:dZ!<=aS!:=_Z (Nat.le_mul_of_pos_left _ hp) ao;have hS:aS!<=(2 ^ 63-1) / 8:=by decide
 have oh:k<2 ^ 63:=by lia
 have hm:ez! iI!*k=(jU!*dZ!:Nat):=by rw[_u,Int.natCast_mul,hk]
 by_cases ho:k=1
 ·subst ho;exact _bD (T:=dr!) (U:=et!) (by decide) (ca! e) (λs'=>_ca s' 1 t) z0G F.fills_int_mul _br z4V _dj.lookup (_bj _br (_ca s 1 t) _dk (_cY _ _) (kC 1 t l fu! n _ sl) ⟨e,rfl,ca! e,_bj _cc (ca! e) F.entry_tuple_mul (F.args_tuple_mul_2 _ _) (z9J l fu! n _ sl t) ⟨e,bo! eD! H I (q1 rfl)⟩⟩)
 ·have fK:List.foldl (λx1 x2=>x1++x2) #[] (md! dZ! fu!)=(md! dZ! af).flatten.toArray:=by
   have:=foldl_rep af dZ! [];exact this
  refine _bD (T:=dr!) (U:=et!) (by decide) (ca! e) (λs'=>_ca s' k t) z0G F.fills_int_mul _br z4V _dj.lookup (_bj _br (_ca s k t) _dk (_cY _ _) (kC k t l fu! n _ sl) ⟨e,rfl,ca! e,_bj _cc (ca! e) F.entry_tuple_mul (F.args_tuple_mul_2 _ _) (zbc l fu! n _ sl k t (by lia) oh (by cases af with | nil=>simp at hp | cons a b=>rfl) (by lia) (by exact _ae (by lia)) (by rw[fK,_u,len_rep,_cu];exact ao)) ⟨e,?_⟩⟩);rw[fK];exact⟨u! _,_,I.laid (o:=n! (hN! dZ! xs)) (t':=s.toks) (λb u q=>_g _ q) ak! ⟨(by rw[len_rep,_cu];exact hz),_,r.rep dZ!,zgo.new _ _⟩,rfl,q _ I.fresh⟩
end
end L2
namespace Dd
open L2
section
variable {X:Cx}{E:XK}
def zh7:D->D->bm!
 | .tup xs,.int k,s=>ac! (1<=k/\a1! xs/\w!*dZ!<=cap) (a7! (hN! dZ! xs)) | _,_,_=>.no
theorem zri:∃r,nD! r/\c0! zh7:=by
 refine bM! zoO ?_;intro H Y s d1 d2 v1 v2 Q r h1 h2 h;unfold zh7 at h;split at h
 ·rename_i xs k;cases yx h2;split at h
  ·rename_i hl;have iC:=h1;obtain⟨a,vs,rfl,e1,e2⟩:=h1;refine⟨a,k,vs,rfl,rfl,e1,hl.1,λz=>?_,by rw[e2.length];exact z0A hl.2.2,λhk=>?_,z4L r h (e2.flat_rep _)⟩
   ·subst z;exact hl.2.1 (_aX.mp (by simpa using e2.length.symm))
   ·subst hk;rw[(show hN! (j! 1).toNat xs=xs from by simp)]at h;exact eW! iC
  ·exact h.elim
 ·exact h.elim
@[simp] theorem zn5(xs:D!)(k:Int)(s:Sto):zh7 ap! (c! k) s=ac! (1<=k/\a1! xs/\w!*dZ!<=cap) (a7! (hN! dZ! xs)):=U!
end
end Dd
namespace L2
section
variable {X:Cx}{pos:Pos}
theorem Inv.far{O:St} (I:L!):(ar!==sysModules)=t!:=by
 obtain⟨o,es,ep,h,_⟩:=I.mod.glob.keeps I.bk;have e1:1<=l6!:=by decide
 exact beq_false_of_ne (_ct (_bQ e1 (_q h)))
def zsW:TE:=λ_ H Q=>∀p,gG!->Q cn! (fP! (.dK []))
theorem znN:V! (.Dict [] [] pos) zsW:=by
 refine λae s O H Q I hq=>wpAny_Dict_empty ⟨fZ!,hS! ar! (.dK []),I.laid (o:=.dK []) (t':=s.toks) (λb u e=>_g _ e) ak! ⟨g8!,I.far,[],?_,Heap.DictOf.new _⟩,rfl,hq _ (mt! _)⟩;constructor
end
end L2
namespace Dd
open L2
section
variable {X:Cx}{E:XK}{pos:Pos}
theorem zpk:X! (.Dict [] [] pos) (eC .dct):= yq znN λO H Q ⟨Y,ρ,s,r,en,h⟩=>bs! (by exact h _ _ _ (vN.lay (o:=.dK []) r hp (by intro _ z;cases z)) (by exact aB! p yB))
end
structure XOk(K:W.Frag)(C:Addr):k! where
 exc:W.excIn K C bmV "ValueError.__new__"=d!
 cls:PySem.ExcCls K C
 val:m1! K aR! (av! iy!)=b! d!
theorem zc4{K:W.Frag} (h:z7t K C=d!):∃d cd sl,mZ! C=b! ⟨av! "type",d,.cls cd,sl⟩:=by
 unfold z7t at h;split at h
 ·rename_i t d cd sl e;have:=jm! h;subst this;exact⟨_,_,_,e⟩
 ·cases h
theorem jC{K:W.Frag} (h:z9D K x=d!):∃C,gq! K x=b! (a0! C)/\XOk K C:=by
 unfold z9D at h;split at h
 ·rename_i C e;simp only[_R]at h;obtain⟨h1,h2,h3,h4,h5,h6,h7,h8⟩:=h;exact⟨C,e,h1,⟨jm! h2,jm! h3,jm! h4,jm! h5,jm! h6,zc4 h7⟩,jm! h8⟩
 ·cases h
section
variable {K:W.Frag}{mg:Str->aL!}(G:∀(x:Str)(v:Value),gq! K x=b! bB!->mg x=bB!)
include G
theorem z9E(h:z9D K x=d!):zoV K mg x:=by
 obtain⟨C,e,o⟩:=jC h;exact⟨C,G x _ e,o.exc⟩
theorem zh6(hr:∀x∈rs,z9D K x=d!)(hc:∀y∈cs,z9D K y=d!)(h:∀x∈rs,∀y∈cs,(z8O K x y).map (·.2)=b! (b! (x==y))):zep ⟨mg,K⟩ rs cs:=by
 have un:∀x C D,gq! K x=b! (a0! D)->mg x=a0! C->C=D:=λx C D e m=>by
  have:=G x _ e;rw[m]at this;cases this;rfl
 refine⟨λc cR C m=>?_,hI! ?_,λc cR d hd C D mC mD=>?_,λc cR C m=>?_⟩
 ·obtain⟨D,e,o⟩:=jC (hr c cR);cases un c C D e m;exact o.cls
 ·obtain⟨D,e,o⟩:=jC (hc d hd);exact⟨D,G d _ e⟩
 ·obtain⟨C',e1,_⟩:=jC (hr c cR);obtain⟨D',e2,_⟩:=jC (hc d hd);cases un c C C' e1 mC;cases un d D D' e2 mD;have q:=h c cR d hd;unfold z8O at q;rw[e1,e2]at q;simpa using q
 ·obtain⟨D,e,o⟩:=jC (hr c cR);cases un c C D e m;exact o.val
theorem zoC(hx:z9D K x=d!)(hy:z9D K y=d!)(h:(z8O K x y).map (·.1)=b! (b! d!)):zsT K mg x y:=by
 obtain⟨C,e1,o1⟩:=jC hx;obtain⟨D,e2,o2⟩:=jC hy;refine⟨C,D,G x _ e1,G y _ e2,o1.exc,o2.exc,λh₀ X=>?_⟩;unfold z8O at h;rw[e1,e2]at h;have hm:W.mroIn K C (u! D)=b! d!:=by simpa using h
 obtain⟨bm,N,nm,q,bs,hdct,sn,sub,ab,col,dd,k0,k1,k2,k3,k5,mN,hC,_⟩:=ziQ X o1.exc;refine⟨bm,N,nm,q,bs,hdct,sn,sub,ab,col,dd,k0,k1,k2,k3,k5,hC,?_⟩;obtain⟨d',oj,i7,hl⟩:=o1.cls.ty;have h2:=X _ _ hl;rw[hC]at h2;unfold W.mroIn W.clsIn at hm;rw[hl]at hm;simp only[_M]at hm;split at hm;·cases hm
 ·simp only[_y,Obj.mk.injEq,Data.cls.injEq]at h2;obtain⟨_,_,h3,_⟩:=h2;rw[(show oj.mro=lh! C::bm from by rw[<- h3])]at hm;simpa using hm
end
theorem zbr{K:W.Frag}(e:zeB q K=i9! q)(x:Str)(hx:x∈q.xs):z9D K x=d!:=z9l (_aM (λz=>z.2.2.2.2.2.1) e) x hx
theorem zrv{K:W.Frag}(e:zeB q K=i9! q)(x y:Str)(b:Bool)(hx:((x,y),b)∈q.ps):z8O K x y=b! (b! b,b! b):=z9l (_aM (λz=>z.2.2.2.2.2.2) e) ((x,y),b) hx
theorem zu1(r:kq k A):kq k (A.mark e):=aN! r.dp r.un r.gd
def LeS(f g:FS):k!:=∀ ρ s a s',ay!=bj! a->g ρ s=bj! a
def LeM(M N:Mir):k!:=∀ds s d s',M ds s=bj! d->N ds s=bj! d
theorem LeS.rfl: LeS f f:=λ_ _ _ _ h=>h
theorem LeS.no(h:LeS f g):LeS f (kj g):=qH! (by rw[znT,h ρ s a s' e])
theorem LeS.calm: LeS f (kj f):=LeS.rfl.no
theorem LeS.fNo: LeS fNo g:=λ_ _ _ _ h=>by cases h
theorem LeM.mof(h:LeS f g):LeM (Mof N n f) (kZ N n g):=λds s d s' e=>by
 unfold Mof at e;unfold kZ;split at e
 ·rename_i hl;rw[_h hl];split at e
  ·rename_i d' s1 e1;rw[h _ _ _ _ e1];exact e
  ·rename_i ρ s1 e1;rw[h _ _ _ _ e1];exact e
  ·cases e
 ·cases e
def LeE(f g:FE):k!:=∀ ρ s a s',ay!=bj! a->g ρ s=bj! a
theorem z2Y{r:R α} {b:β} (h:r.bind k=bj! b):∃a s1,r=P! a/\k a s1=bj! b:=by cases r with
 | ok a s=>exact⟨a,s,Eq.refl _,h⟩ | ex c s=>cases h | no=>cases h
theorem LeS.seq(h:LeS f f')(h2:LeS g g'):LeS (zA f g) (zA f' g'):=qH! (by
 obtain⟨fl,s1,e1,e2⟩:=z2Y e;show A! (f' ρ s) _=_;rw[h _ _ _ _ e1];cases fl with
 | nx ρ'=>exact h2 _ _ _ _ e2 | _=>exact e2)
theorem LeS.drop(h:LeE f f'):LeS (wy f) (wy f'):=qH! (by
 obtain⟨d,s1,e1,e2⟩:=z2Y e;show A! (f' ρ s) _=_;rw[h _ _ _ _ e1];exact e2)
theorem LeS.set(h:LeE f f'):LeS (yz i f) (yz i f'):=qH! (by
 obtain⟨d,s1,e1,e2⟩:=z2Y e;show A! (f' ρ s) _=_;rw[h _ _ _ _ e1];exact e2)
theorem LeE.call(h:LeM M M'):LeE (zg M f) (zg M' f):=qH! (by
 obtain⟨d,s1,e1,e2⟩:=z2Y e;show j8! _=_;rw[e1];exact h _ _ _ _ e2)
theorem LeS.if_(h:LeS f f')(h2:LeS g g'):LeS (fIf t f g) (fIf t f' g'):=qH! (by
 obtain⟨d,s1,e1,e2⟩:=z2Y e;show A! (t ρ s) _=_;rw[e1];cases d with
 | true=>exact h _ _ _ _ e2 | false=>exact h2 _ _ _ _ e2)
theorem LeM.ok(h:LeM M N) (e:M ds s=bj! d):N ds s=bj! d:=h ds s d s' e
end Dd
namespace Dd
open L2
open PySem.W
def kev{α:b4!}(n:Nat)(lt:Nat->k5!):KasT α->bn! α
 | .ret a=>b! a | .ask i j k=>id! (i<n/\j<n) (d8! n (k (lt i j)))
theorem zfb{α:b4!}{n:Nat}{lt:Nat->k5!}{er:Nat->Nat->(cc!->ey!)->ey!}{Q:α->ey!}{s:Shared}(hc:∀i j C,i<n->j<n->C (lt i j) s->er i j C s): ∀(t:KasT α)(a:α),d8! n t=b! a->Q a s->t.kasWp er Q s
 | .ret a,b,e,h=>by
  simp only[kev,_y]at e;subst e;exact h | .ask i j k,b,e,h=>by
  unfold kev at e;split at e
  ·rename_i aJ;exact hc i j _ aJ.1 aJ.2 (zfb hc (k (lt i j)) b e h)
  ·cases e
noncomputable def lexLt(p q:Int×Int):Bool:=aj! p.1 q.1 (aj! p.2 q.2 t! (dO! p.2 q.2)) (dO! p.1 q.1)
def zfc(h:Heap)(v:Value)(p:Int×Int):k!:=∃a o n t u,v=ag!/\cJ! a/\gk!=dK!/\h5!=.seq #[bS! p.1,bx! p.2 u] n
inductive wN (h:Heap):c3!->mY!->k! | nil:wN h [] [] | cons {v p vs ps}:zfc h v p->wN h vs ps->wN h (v::vs) (p::ps)
theorem wN.length{h:Heap}:∀{vs ps},wN h vs ps->mw!
 | _,_,.nil=>rfl | _,_,.cons _ r=>by simp[r.length]
theorem wN.at_{h:Heap}:∀{vs ps},wN h vs ps->∀i,i<a2!->zfc h (vs.getD i aa!) (gv! (0,0))
 | _,_,.nil,i,hi=>by simp at hi | _,_,.cons p r,0,_=>by simpa using p | _,_,.cons p r,i+1,hi=>by simpa using r.at_ i (by simpa using hi)
theorem wN.mono{h h':Heap}(k:bD! (cJ! b->dC! b)):∀{vs ps},wN h vs ps->wN h' vs ps
 | _,_,.nil=>cB! | _,_,.cons ⟨a,o,n,t,u,e,g,c,d⟩ r=>eI! ⟨a,o,n,t,u,e,k _ _ g,c,d⟩ (r.mono k)
theorem wN.tups{h:Heap}:∀{vs ps},wN h vs ps->∃fs,KatTups h vs fs/\fs.length=a2!/\∀v∈fs,∃i t,v=bS! i
 | _,_,.nil=>fH! [] KatTups.nil (ls! (by cases hv)) | _,_,.cons (p:=p) ⟨a,o,n,t,u,e,g,c,d⟩ r=>by
  obtain⟨fs,k,l,m⟩:=r.tups;subst e;refine⟨bS! p.1::fs,KatTups.cons g c d rfl k,by simp[l],ls! ?_⟩;rcases dE! hv with rfl | hv;·exact ca! _
  ·exact m v hv
section
variable {prog:Program}{w:World}{A:Around}{E:bX!}{s:Shared}
theorem znh{v u:Value}{p q:Int×Int}{C:cc!->ey!}(hv:zfc I! v p)(hu:zfc I! u q)(h:C (om! p q) s):cF! w A (keyLt' lO! v u) C E s:=by
 obtain⟨a,o,n,t,t',rfl,g,c,d⟩:=hv;obtain⟨b,o',n',x,x',rfl,g',c',d'⟩:=hu;refine kat_lt g d g' d' (kat_cons (_b8 (kat_go (λe=>kat_yes (kat_cons (_b8 (kat_go (λe2=>kat_yes (kat_nil ?_)) λe2=>kat_no ?_)))) λe=>kat_no ?_)))
 ·have e1:p.1=q.1:=by simpa using e
  have e3:p.2=q.2:=by simpa using e2
  simpa[lexLt,e1,e3] using h
 ·have e1:p.1=q.1:=by simpa using e
  have e3:¬ p.2=q.2:=by simpa using e2
  refine kat_one _ _ (PyProof.Rows.lt_int ?_);show C _ s;simpa[lexLt,e1,e3] using h
 ·have e1:¬ p.1=q.1:=by simpa using e
  have hb:(d!&&(ez! 0==0))=d!:=rfl;rw[hb];refine oneLt_int ?_;simpa[lexLt,e1] using h
theorem zfQ{vs:c3!}{ps:mY!}{Q:SortKind->ey!}(hp:wN I! vs ps)(h0:0<a2!)(h:Q lO! s):cF! w A (keyKind' eM!) Q E s:=by
 obtain⟨fs,k,l,m⟩:=hp.tups;refine kat_kind (T:=av! et!) k (by rw[l];exact h0) (ls! ?_) rfl h;obtain⟨i,t,rfl⟩:=m v hv;exact Looks.of_pure rfl
noncomputable def z8a(vs:c3!)(p:fF!):cD!:=List.toArray (j6! (vs.getD i Value.none))
theorem zcP{a:Addr} {vs:c3!} {ps:mY!} {n:Nat} {p:fF!} {P:PySem.Fin->ey!} (ho:fY! a (mv! n)) (hp:∀h',(bD! (b≠a->dp! b->dC! b))->wN h' vs ps) (h2:2<=dG!) (fL:dG!<64) (he:ru! (λi j=>om! (gv! (0,0)) (o3! (0,0))) rR!=b! p) (h:P (.done (.ret aa!)) {s with heap:=sortedHeap I! a vs (z8a vs p)}):cF! w A (Builtin.«list.sort» (dN! [ag!])) P E s:=by
 have ha:a<ar!:=_q ho;have ai:dG!<=aS!:=by rw[sizeLine_eq];lia
 have bK:mw!:=v! (hp I! λ_ _ _ e=>e);obtain⟨e1,g1⟩:∃e1,e5! (lG! a (λ_=>(#[]:cD!))) a (kM! #[] e1):=gy! (get?_update_seq ho λ_=>#[]);have g2:e5! (da! (da! (lG! a (λ_=>(#[]:cD!))) (o1! 0)) (kM! #[] 0)) a (kM! #[] e1):=_g _ (_g _ g1);have eA:wN (da! (da! (lG! a (λ_=>(#[]:cD!))) (o1! 0)) (kM! #[] 0)) vs ps:=hp _ (kA! (_g _ (_g _ (bb! ((_bG I! a (sM! (λ_=>(#[]:cD!)))).2 b hb) e))));rw[list_sort_plain];refine _a (listItems_at ho rfl (_a (_ch ho rfl (_a (_c2 g1 rfl (_a (_cH (_a (_df (_aS ?_) g8!)) ai)))) (by rw[_u];exact ai) g8!)));have bQ:¬ vs.toArray.size<2:=by rw[_u];lia
 dsimp only;rw[_o bQ,_o bQ];refine _a (zfQ (s:={s with heap:=da! (da! (lG! a (λ_=>(#[]:cD!))) (o1! 0)) (kM! #[] 0)}) eA (by lia) ?_);refine _a (kW! (kat_run (ks:=vs) (vs:=vs) (G:=λq s'=>q=p/\s'={s with heap:=da! (da! (lG! a (λ_=>(#[]:cD!))) (o1! 0)) (kM! #[] 0)}) (Q:=λay s'=>∃q:Array Nat,q.size=dG!/\pq! ay=q.map (qI! j2!)/\sI!=a!/\q=p/\s'={s with heap:=da! (da! (lG! a (λ_=>(#[]:cD!))) (o1! 0)) (kM! #[] 0)}) rfl h2 fL (λq ay s' a1 a2 a3 a4=>⟨q,a1,a2,a3,a4⟩) (zfb (n:=ps.length) (λi j C hi hj hC=>?_) _ p (by rw[bK];exact he) (cf! rfl))) ?_ z);·exact znh (eA.at_ i hi) (eA.at_ j hj) hC
 rintro⟨⟨⟩,ay⟩ s' ⟨q,hq,iD,hf,rfl,rfl⟩;dsimp only;have fM:=kat_snds (ks:=vs) (vs:=vs) rfl iD;rw[fM,hf];refine _a (_c2 g2 rfl (_a (_ch g2 rfl ?_ g8! (by rw[_u,_X,_aZ,hq];exact _c3 ai))));simp only[_c4,_cJ,_aU];exact _m h
theorem zgE{l:Addr} {vs:c3!} {ps:mY!} {p:fF!} {Q:bX!} (hl:s.heap.IsList l eM!) (hp:wN I! vs ps) (h2:2<=dG!) (fL:dG!<64) (he:ru! (λi j=>om! (gv! (0,0)) (o3! (0,0))) rR!=b! p) (h:Q (u! dU!) {s with heap:=sE! vs (z8a vs p)}): cF! w A (p0! lf! [eD!]) Q E s:=by
 have ai:dG!<=aS!:=by rw[sizeLine_eq];lia
 refine Calls.call_function_entry kind_sorted plain_sorted entry_sorted (args_sorted1 _) ?_;unfold Builtin.«sorted»;refine _a (m:=checkCount lf! 1 1 _) (_m (_a (collect_list hl (_a (_df ?_ (by rw[sizeLine_eq];lia))) (by rw[sizeLine_eq];lia))));have sz:eg! (oT! (oN! #[] 0) (· ++ eM!))=dU!:=by rw[Heap.size_update,size_push']
 have g:e5! (da! (oT! (oN! #[] 0) (· ++ eM!)) (mv! 0)) dU! (mv! 0):=by
  rw[<- sz];exact g9!
 have keep:bD! (dp! b->e5! (da! (oT! (oN! #[] 0) (· ++ eM!)) (mv! 0)) b o/\b≠dU!):=λb o q=>by
  have lt:b<ar!:=_q q;refine⟨?_,_D (_aW lt)⟩;rw[_b3 _ _ _ (by rw[sz];exact _D (_aW lt)),Heap.get?_update_ne _ _ _ _ (_D lt),_b3 _ _ _ (_D lt)];exact q
 show cF! w _ _ _ _ ({s with heap:=da! (oT! (oN! #[] 0) (· ++ eM!)) (mv! 0)});rw[sz];exact _a (_aS (_av slot_list_sort (ca! g) entry_list_sort (zcP g (λh' k=>hp.mono λb o q=>k b o (keep b o q).2 (keep b o q).1) h2 fL he (aB! _ (_m (bM! rfl h)))) (args_list_sort _)))
end
section
variable {X:Cx}{E:XK}
def z4K:D!->bn! mY!
 | []=>b! [] | .tup [.int a,.int b]::r=>(z4K r).map λt=>(a,b)::t | _=>none
def zmJ(K:W.Frag):aM!->Hp->eE!:=λxs H Q=>∃(l:Addr)(ys:List V)(ps:List (Int×Int))(p:Array Nat),xs=[eD!]/\SqL K H l ys/\c9!=a2!/\2<=c9!/\c9!<64/\ (∀i,i<a2!->∃a,am! ys ag!/\eH! K a (cU! (gv! (0,0)).1 (gv! (0,0)).2))/\ ru! (λi j=>om! (gv! (0,0)) (o3! (0,0))) rR!=b! p/\(∀i∈p.toList,i<c9!)/\r4! c9!/\∀r,H r=a!->Q (u! r) (hS! r (W! (j6! (rx! i))))
theorem zem{ae:dh!}{O:L2.St}{H:Hp}{s:Shared}(I:L!):∀{ys:List V}{af:List Value}{ps:List (Int×Int)},xw ys af->c9!=a2!-> (∀i,i<a2!->∃a,am! ys ag!/\eH! X.K a (cU! (gv! (0,0)).1 (gv! (0,0)).2))->wN I! af ps
 | [],_,[],.nil,_,_=>cB! | [],_,_::_,_,l,_=>by simp at l | _::_,_,[],_,l,_=>by simp at l | y::ys,_,q::ps,.cons r rs,l,h=>by
  refine eI! ?_ (zem I rs (by simpa using l) (fb! (by simpa using h (i+1) (by simpa using hi))));obtain⟨a,e,t⟩:=h 0 (by simp);simp only[_c,_y]at e;subst e;cases r;obtain⟨aP,r',pl,_⟩:=lo! t;obtain⟨o,ho,hc,n,hd⟩:=pl;simp only[List.getD_cons_zero]at r';obtain⟨u,us,rfl⟩:∃u us,aP=u::us:=by cases r';exact ca! _
  cases r' with | cons r1 r2=>
   obtain⟨t1,rfl⟩:=r1;obtain⟨t2,rfl,t3,rfl⟩:=vals1 r2;exact⟨a,o,n,t1,t3,rfl,ho,hc,hd⟩
theorem zbI:∀{ys:List V}{af:List Value},xw ys af->∀i,i<c9!->wV (rx! i) (af.getD i aa!)
 | [],_,.nil,i,hi=>by simp at hi | y::ys,_,.cons r rs,0,_=>by simpa using r | y::ys,_,.cons r rs,i+1,hi=>by simpa using zbI rs i (by simpa using hi)
theorem z9z{ys:aM!}{af:c3!}(h:xw ys af):∀(p:List Nat),(∀i∈p,i<c9!)->xw (p.map λi=>rx! i) (p.map λi=>af.getD i aa!)
 | [],_=>cB! | i::p,hp=>eI! (zbI h i (hp i in!)) (z9z h p λj hj=>hp j (.tail _ hj))
theorem zbH:jy! X lf! (zmJ X.K):=by
 intro ae s O H xs us Q I r h;obtain⟨l,ys,ps,p,rfl,hq,len,h2,fL,dP,he,hp,au,q⟩:=h;obtain⟨u,rfl,rx⟩:=k2!;cases rx;obtain⟨af,r',pl,hz⟩:=lU!;have ao:=r'.length;refine zgE (ps:=ps) (p:=p) pl.isList (zem I r' len dP) (by lia) (by lia) he ?_;obtain⟨c',e⟩:=sortedAll_at I! af (z8a af p);refine⟨u! dU!,_,I.laid (t':=s.toks) (λb o z=>sortedAll_old z) (_c1 _) (show kF aO! X.w _ (sE! af (z8a af p)) _ (W! (j6! (rx! i))) from⟨?_,_,c',z9z r' p.toList hp,e⟩),rfl,q _ (sf! (_c1 _))⟩;rw[_X,au];exact hz
def z3P:D!->bm!
 | [d],s=>match l0! d with
  | some xs=>match z4K xs with
   | some ps=>ac! (2<=w!/\w!<64) (match ru! (λi j=>om! (gv! (0,0)) (o3! (0,0))) rR! with
     | some p=>ac! (p.toList.all (λi=>dO! i w!)=d!/\r4! w!) (bA! (j6! (xs.getD i an!))) | none=>.no) | none=>.no
  | none=>.no
 | _,_=>.no
theorem z6F{mg:Gm}{H:Hp}{Y:bi!}:∀{xs:List D}{ps:List (Int×Int)}{vs:List V},z4K xs=b! ps->hu!->w!=a2!/\ ∀i,i<a2!->∃a,am! vs ag!/\eH! nk! a (cU! (gv! (0,0)).1 (gv! (0,0)).2)
 | [],ps,vs,e,h=>by
  simp only[z4K,_y]at e;subst e;exact fc! (fb! (by simp at hi)) | x::xs,ps,vs,e,h=>by
  unfold z4K at e;split at e;·simp at *
  ·rename_i a b r z;cases z;cases q:z4K xs with
   | none=>rw[q]at e;simp at e | some t=>
    rw[q]at e;simp only[_ah,_y]at e;subst e;simp only[yp]at h;obtain⟨v,ws,rfl,h1,h2⟩:=h;obtain⟨l,k⟩:=z6F q h2;refine⟨by simp[l],fb! ?_⟩;cases i with
    | zero=>
     obtain⟨c,us,rfl,q1,q2⟩:=kU (K:=mg.K) h1;obtain⟨v1,v2,rfl,d1,d2⟩:=zaW q2;cases yx d1;cases yx d2;exact aB! c q1 | succ i=>simpa using k i (by simpa using hi)
  ·cases e
theorem zcT{mg:Gm}{H:Hp}{Y:bi!}:∀{xs:List D}{vs:List V},hu!->∀i,i<w!->iZ! (xs.getD i an!) (vs.getD i an!)
 | [],_,_,i,hi=>by simp at hi | x::xs,vs,h,i,hi=>by
  simp only[yp]at h;obtain⟨v,ws,rfl,h1,h2⟩:=h;cases i with
  | zero=>simpa using h1 | succ i=>simpa using zcT h2 i (by simpa using hi)
theorem zan{mg:Gm}{H:Hp}{Y:bi!}{xs:D!}{vs:aM!}(h:hu!):∀(p:List Nat),(∀i∈p,i<w!)->gw! H Y (p.map λi=>xs.getD i an!) (p.map λi=>vs.getD i an!)
 | [],_=>by simp[yp] | i::p,hp=>by
  simp only[_p,yp];exact gW! _ _ (zcT h i (hp i in!)) (zan h p λj hj=>hp j (.tail _ hj))
theorem zjF:∃r,jy! X lf! r/\z2v X E r z3P:=j4! zbH.freeze (by
 unfold z3P at h;split at h
 ·split at h
  ·rename_i d xs e;split at h
   ·rename_i ps om;split at h
    ·rename_i h2;split at h
     ·rename_i p ep;split at h
      ·rename_i hp;obtain⟨v,rfl,dn⟩:=lc!;obtain⟨a,ws,rfl,q1,q2⟩:=yu r e dn;obtain⟨l,k⟩:=z6F om q2;have hl:=q2.length;have cv:∀i∈p.toList,i<w!:=fb! (by simpa using _P.mp hp.1 i hi)
       exact⟨a,ws,ps,p,rfl,z! q1,by lia,by lia,by lia,k,ep,fb! (by have:=cv i hi;lia),by rw[hp.2];lia,z0L r h (zan q2 _ cv)⟩
      ·exact h.elim
     ·exact h.elim
    ·exact h.elim
   ·exact h.elim
  ·exact h.elim
 ·exact h.elim)
end
end Dd
namespace L2
section
variable {X:Cx}{v1 v2 e:Expr}{t1 t2 te:TE}{k1 k2:Str}{ap ak bG p1 p2:Pos}{j1 j2:Nat}
theorem ziM(hk:k1≠k2)(h1:V! v1 t1)(h2:V! v2 t2)(he:V! e te) (am:y! (lL! (.Dict [ix! k1 j1 p1,ix! k2 j2 p2] [v1,v2] bG) "get" (hk! (.Dict [ix! k1 j1 p1,ix! k2 j2 p2] [v1,v2] bG)) = hk! (.Dict [ix! k1 j1 p1,ix! k2 j2 p2] [v1,v2] bG))) (aH:di! (ht! (hO! ak [e]) (! x.1)&&ht! (nF! ak []) (gl! x.1) && a5! (v! [e]+v! ([]:gU!)+(nv! ([]:gU!) 0 1)<30))) (ai:di! pY!)(hs:y! (hO! ak [e]=[dW!])): V! (fz! (mB! (.Dict [ix! k1 j1 p1,ix! k2 j2 p2] [v1,v2] bG) "get") [e] [] ak) (gL! (t1 O H λx1 H1=>t2 O H1 λx2 H2=>te O H2 λy H3=>∃k,y=aq! k/\Q (aj! k k1 x1 (aj! k k2 x2 an!)) H3)):=by
 intro ae s O H Q I h;refine _bZ am aH ai hs (wpAny_Dict_walk (knd:=r3! X.w) rfl rfl (by simp) (Nat.le_of_ble_eq_true rfl) ?_);have far:=I.far;have I0:lI! ({s with heap:=h7! ({cls:=j7!,data:=lv! #[]})}):=I.kept (t':=s.toks) λb u z=>_g _ z;have fp:∀b∈[ar!],zcM X ae H b:=cr! (by
  cases _bl.mp hb;exact I.fpOk ak! (mt! _))
 have g0:e5! (h7! ({cls:=j7!,data:=lv! #[]})) ar! ({cls:=j7!,data:=lv! #[]}):=g9!;have I1:=I0.pinned fp (cr! (by
  cases _bl.mp hb;exact bM! g0 (by intro v z;cases z)))
 have d0:(h7! ({cls:=j7!,data:=lv! #[]})).DictOf (r3! X.w) ar! []:=Heap.DictOf.new _;refine pairTrees_cons_walk (_cy (thn (h1 _ _ O H _ (I1.tok _) h) λu1 s1 ⟨x1,H1,I2,r1,q1⟩=>?_));refine pairTrees_cons_walk (_cy (thn (h2 _ _ O H1 _ (I2.tok _) q1) λu2 s2 ⟨x2,H2,I3,r2,q2⟩=>pairTrees_nil_walk ?_));have pin:=I3.pin _ (_N _ (_N _ (kS in! g0)));refine⟨[(k1,u1),(k2,u2)],bo! (strKind_is _ _ _ _) rfl (strKind_is _ _ _ _) lq!,d0.at λo z=>?_,λh' dd sb=>?_⟩
 ·rw[g0]at z;cases z;exact pin.1
 have em:merged ([]:dL! dX!) [(k1,u1),(k2,u2)]=[(k1,u1),(k2,u2)]:=by simp[merged,stored,hk]
 rw[em]at dd;obtain⟨f0,f1,f2,f3,f4,f5⟩:=fp _ in!;have I4:cQ! H2 ({s2 with heap:=h',toks:=s2.toks+2}):=I3.unpinned.turned (it:=s.heap.objs.size) (λb o hb z=>bb! (sb.2 b hb) z) pin.2.1 pin.2.2.1 f3 f4 f5;obtain⟨od,es,ep,ho,hx,hd,_⟩:=dd;have oo:∀b∈[ar!],zcM X ae H2 b:=cr! (by
  cases _bl.mp hb;exact⟨pin.2.1,f1,f2,f3,f4,f5⟩)
 have I5:=I4.pinned oo (cr! (by
  cases _bl.mp hb;exact bM! ho (by intro v z;rw[hd]at z;cases z)))
 have dd:h'.DictOf (r3! X.w) ar! [(k1,u1),(k2,u2)]:=⟨od,es,ep,ho,hx,hd,by assumption⟩;refine⟨nG!,"dict.get",PySem.F.plainAttrs_dict,PySem.F.slot_dict_get,PySem.F.type_dict_get,Heap.DictOf.typeIs (s:={s2 with heap:=h',toks:=s2.toks+2}) dd,λa z=>?_,?_⟩
 ·cases z;exact aN! od ho hx.2.1
 refine _b0 rfl (_bx (_cD (thn (he _ _ O H2 _ I5 q2) λu3 s3 ⟨y,H3,I6,r3,k,ey,q3⟩=>_cV ?_)));subst ey;obtain⟨t,rfl⟩:=r3;have iE:=I6.pin _ (_N _ (_N _ (kS in! ho)));have lN:s3.heap.DictOf (r3! X.w) ar! [(k1,u1),(k2,u2)]:=dd.at λo z=>by
  have z':dC! ar!:=z;rw[ho]at z';cases z';exact iE.1
 refine call_meetsIn PySem.F.slot_dict_get lN.typeIs PySem.F.entry_dict_get (PySem.F.args_dict_get_2 _ _) (meets_dict_get (r3! X.w) ar! (strKind_is _ _ k t) far) ⟨_,lN.mapOf,_,H3,I6.unpinned.tok _,?_,q3⟩;by_cases c1:k=k1
 ·subst c1;simpa[valueAt] using r1
 ·by_cases c2:k=k2
  ·subst c2;simpa[valueAt,hk,c1] using r2
  ·have e1:¬ k1=k:=λz=>c1 jn!;have e2:¬ k2=k:=λz=>c2 jn!;simp only[valueAt,List.find?,e1,e2,c1,c2,_cw,_aU,Option.map_none,_di];rfl
end
open PySem.Builtin.Str
section
variable {X:Cx}{o e:Expr}{to te:TE}{ap ak pos:Pos}
theorem zkc(ho:V! o to)(am:y! (lL! o "upper" gC!=gC!))(ai:di! pY!): V! (fz! (mB! o "upper") [] [] ak) (gL! (to O H (hE! (∃z,x=aq! z/\tooLong (v! (Txt.upper z))=t!/\Q (aq! (Txt.upper z)) H1)))):=by
 intro ae s O H Q I h;refine Call_method0 am ai (thn (ho ae s O H _ I h) λv s1 ⟨x,H1,I1,r1,z,ez,hz,q⟩=>?_);subst ez;obtain⟨t,rfl⟩:=r1;exact SB.upper hz ⟨aq! (Txt.upper z),H1,I1.tok _,cf! _,q⟩
def zvU:V->dt!->dt!->Hp->eE!:=qq! (∃z i,x=aq! z/\lo=is!/\hi=a!/\pr!<=aS!/\Q (aq! (rp! z is!)) H)
theorem zrA:SlR X zvU:=by
 intro ae s O H x v vl vu lo hi sl Q I rx hs pl pu h;obtain⟨z,i,rfl,rfl,rfl,hz,q⟩:=h;obtain⟨t,rfl⟩:=rx;obtain⟨ob,ho,hc,hd⟩:=hs;cases pl with | int i ti=> cases pu with | none=>
   refine⟨gj!,_,PySem.F.slot_str_getitem.lookup,typeIs_str _ _ _,wpAny_getItem_str_slice (l:=b! (i,ti)) (u:=none) (st:=none) ⟨ob,ho,hc,hd⟩ rfl (post_val_or_str ⟨_Z (Txt.slice_le z _ _) hz,λt' k=>?_⟩)⟩;exact⟨aq! (rp! z is!),H,im!,cf! _,q⟩
end
end L2
namespace Dd
open L2 PySem.Builtin.Str
section
variable {X:Cx}{E:XK}{o e v1 v2:Expr}{ap ak bG p1 p2 pos:Pos}{k1 k2:Str}{j1 j2:Nat}
theorem ze4{mg:Gm}{H:Hp}{Y:bi!}{z:Str}:iZ! (aq! z) (aq! z):=by rfl
noncomputable def zmm(f:FE):FE:=eO! (eb! (match d with
 | .str z=>ac! (tooLong (v! (Txt.upper z))=t!) (P! (aq! (Txt.upper z))) | _=>.no))
theorem zmV{f:FE}(ho:X! o f)(am:y! (lL! o "upper" gC!=gC!))(ai:di! pY!): X! (fz! (mB! o "upper") [] [] ak) (zmm f):=yq (zkc ho am ai) λO H Q ⟨Y,ρ,s,r,en,h⟩=>by
 refine yS (k:=kF! (match d with | .str z=>ac! (tooLong (v! (Txt.upper z))=t!) (eN! (D.str (Txt.upper z)) s1) | _=>.no)) r en h _ λv H1 Y1 s1 d r1 av dn stp h1=>?_;cases d with
 | str z=>
  cases z0N dn;simp only at h1;split at h1
  ·rename_i hz;exact mH! z hz (rC! ze4)
  ·exact h1.elim | _=>exact h1.elim
noncomputable def zvn(f:FE)(fl:FO):FE:=eO! (eb! (A! (fl ρ s1) (λlo s2=>match d,lo with
 | .str z,some i=>ac! (pr!<=cap) (bp! (aq! (rp! z is!))) | _,_=>.no)))
theorem zjQ{lo:r7!}{p2:Pos}{fe:FE}{fl:FO}(he:fq! fe)(hl:RO X E lo fl):X! (my! e (.Slice lo a! a! p2)) (zvn fe fl):= yq (zeH zrA he hl zhz) λO H Q ⟨Y,ρ,s,r,en,h⟩=>by
  refine yS (k:=kF! (A! (fl ρ s1) (λlo s2=>match d,lo with | .str z,some i=>ac! (pr!<=cap) (eN! (D.str (rp! z is!)) s2) | _,_=>.no))) r en h _ λv H1 Y1 s1 d r1 av dn stp h1=>?_;refine zdM (k:=fun ρ lo s2=>match d,lo with | .str z,some i=>ac! (pr!<=cap) (eN! (D.str (rp! z is!)) s2) | _,_=>.no) r1 av h1 _ λlo H2 Y2 s2 r2 aZ ag h2=>?_;cases d with
  | str z=>
   cases z0N dn;cases lo with
   | none=>exact h2.elim | some i=>
    simp only at h2;split at h2
    ·rename_i hz;exact⟨z,i,rfl,rfl,rfl,z0A hz,h2.here r2 ze4⟩
    ·exact h2.elim
  | _=>cases lo<;>exact h2.elim
def zl8:D->D->bm!
 | .str a,.str b,s=>ac! (a.length+pl!<=cap) (i! (aq! (a++b))) | _,_,_=>.no
theorem zly:∃r,gB! .Add r/\c0! zl8:=by
 refine bM! zfF ?_;intro H Y s d1 d2 v1 v2 Q r h1 h2 h;unfold zl8 at h;split at h
 ·rename_i a b;cases z0N h1;cases z0N h2;split at h
  ·rename_i hl;exact⟨a,b,rfl,rfl,z0A hl,eW! ze4⟩
  ·exact h.elim
 ·exact h.elim
noncomputable def zgL(k1 k2:Str)(f1 f2 fe:FE):FE:=b7! (f1 ρ s) (λx1 s1=>A! (f2 ρ s1) (λx2 s2=>A! (fe ρ s2) (λy s3=>match y with
 | .str k=>gz! (aj! k k1 x1 (aj! k k2 x2 an!)) | _=>.no)))
theorem zqL{f1 f2 fe:FE}(hk:k1≠k2)(h1:X! v1 f1)(h2:X! v2 f2)(he:fq! fe) (am:y! (lL! (.Dict [ix! k1 j1 p1,ix! k2 j2 p2] [v1,v2] bG) "get" (hk! (.Dict [ix! k1 j1 p1,ix! k2 j2 p2] [v1,v2] bG)) = hk! (.Dict [ix! k1 j1 p1,ix! k2 j2 p2] [v1,v2] bG))) (aH:di! (ht! (hO! ak [e]) (! x.1)&&ht! (nF! ak []) (gl! x.1) && a5! (v! [e]+v! ([]:gU!)+(nv! ([]:gU!) 0 1)<30))) (ai:di! pY!)(hs:y! (hO! ak [e]=[dW!])): X! (fz! (mB! (.Dict [ix! k1 j1 p1,ix! k2 j2 p2] [v1,v2] bG) "get") [e] [] ak) (zgL k1 k2 f1 f2 fe):= yq (ziM hk h1 h2 he am aH ai hs) λO H Q ⟨Y,ρ,s,r,en,h⟩=>by
  refine yS (k:=fun ρ x1 s1=>A! (f2 ρ s1) (λx2 s2=>A! (fe ρ s2) (λy s3=>match y with | .str k=>eN! (aj! k k1 x1 (aj! k k2 x2 D.non)) s3 | _=>.no))) r en h _ λu1 H1 Y1 s1 x1 r1 av d1 nZ h1=>?_;refine yS (k:=fun ρ x2 s2=>A! (fe ρ s2) (λy s3=>match y with | .str k=>eN! (aj! k k1 x1 (aj! k k2 x2 D.non)) s3 | _=>.no)) r1 av h1 _ λu2 H2 Y2 s2 x2 r2 aZ d2 bn h2=>?_;refine yS (k:=fun ρ y s3=>match y with | .str k=>eN! (aj! k k1 x1 (aj! k k2 x2 D.non)) s3 | _=>.no) r2 aZ h2 _ λu3 H3 Y3 s3 y r3 nr d3 cC h3=>?_;cases y with
  | str k=>
   cases z0N d3;refine aB! k (h3.here r3 ?_);split;·exact (d1.mono bn).mono cC
   ·split;·exact d2.mono cC
    ·rfl | _=>exact h3.elim
end
end Dd
namespace Dd
open L2
section
variable {X:Cx}{E:XK}{e a b c tg iter az:Expr}{es:aD!}{pos:Pos}{CX:CXT}
variable {scope:Scope}{aC:aD!}{fi:FI}{fg:FG}{ft:FT}{fe:FE}{g:TG}{aF py:Pos}
theorem zfl(N':ao!)(mp:eY!)(hc:bW!)(hi:RI X E tg h6! fi)(hg:lT! cA! tg g)(cq:z8e C! E mp g fg)(ht:lR! cA! aC (tT C! E ft))(he:p1! cA! az fe) (aV:y! kc!)(aR:di! (zgQ lt!))(aI:di! sz!)(aX:di! (ku! N' mp)) (hs:lb! (k4! x=la!)):X! (gd! [gE! 0]) (z1Q fi mp fg ft fe):= yq (zhJ (te:=tE C! E fe) N' mp hc hi hg ht (λex s H=>he ex s H) aV (z5Y aR) (z5M aI) aX hs) λO H Q ⟨Y,ρ,s,r,en,h⟩=>by
  refine z68 cq r en h λH1 Y1 s1 xs vs r1 av dn h1 bI=>?_;split at h1
  ·rename_i hf;exact zgB r1 h1 hf dn
  ·exact h1.elim
end
section
variable {X:Cx}{E:XK}{es:aD!}{fa:FE}{fr:FA}
theorem aN(ha:f6! (fe! p))(hr:RA X E es fr):RA X E ((fe! p)::es) (zb fa fr):=jB ha hr (zu ..)
theorem aK(ha:f6! (jE! c p))(hr:RA X E es fr):RA X E ((jE! c p)::es) (zb fa fr):=jB ha hr (z9h ..)
theorem aQ(ha:f6! (fz! g xs ks p))(hr:RA X E es fr):RA X E ((fz! g xs ks p)::es) (zb fa fr):=jB ha hr (xx ..)
theorem aT(ha:f6! (hF! xs k p))(hr:RA X E es fr):RA X E ((hF! xs k p)::es) (zb fa fr):=jB ha hr (zez ..)
theorem aS(ha:f6! (rE! b p))(hr:RA X E es fr):RA X E ((rE! b p)::es) (zb fa fr):=jB ha hr (uZ ..)
theorem aB(ha:f6! (.BinOp a o b p))(hr:RA X E es fr):RA X E ((.BinOp a o b p)::es) (zb fa fr):=jB ha hr (zkb ..)
theorem aL(ha:f6! (.List xs p))(hr:RA X E es fr):RA X E ((.List xs p)::es) (zb fa fr):=jB ha hr (zkP ..)
theorem aO{a:Expr}{g:ee! Comprehension}{sc:Scope}{p:Pos}(ha:f6! (.ListComp a g sc p))(hr:RA X E es fr):RA X E ((.ListComp a g sc p)::es) (zb fa fr):=jB ha hr (zG ..)
theorem aM(ha:f6! (.Compare a o b p))(hr:RA X E es fr):RA X E ((.Compare a o b p)::es) (zb fa fr):=jB ha hr (z5L ..)
theorem aU(ha:f6! (.UnaryOp o a p))(hr:RA X E es fr):RA X E ((.UnaryOp o a p)::es) (zb fa fr):=jB ha hr (zof ..)
theorem zve{pos:Pos} {p:Pos} (F:Has aO! X.w X.K fw! fa! CX x n M) (hr:z2z k X.A) (hx:kV! X E) (ha:RA X E (e::es) f) (hk:j1! (n<=k)) (hg:y! e6!) (aG:cm! (x==cP!)) (he:y! (au! (e::es)=dW!::ir!)) (au:ea! es (·.1)):X! (do! x p (e::es)) (zg M f):=zrr F (hr.mono hk) hx hg ha aG he au
end
section
variable {q:Ask}{w:World}{K:W.Frag}{h:Heap}{mg:Str->aL!}
theorem zm5(X:hZ!)(G:oH! mg)(e:zeB q K=i9! q)(i:Nat) {st:Stmt}(hx:am! q.fs (x,st)):∃f fd,mg x=a0! f/\Fun K x x st f fd:=let ⟨f,fd,a,F⟩:=zuh e x st (_x hx);⟨f,fd,W.mg_of X G a,F⟩
theorem qg(X:hZ!)(G:oH! mg)(e:zeB q K=i9! q)(i:Nat) (hx:am! q.bs x):hz! x:=W.mg_none_of X G (zsU e x (_x hx))
theorem zlO(X:hZ!)(G:oH! mg)(e:zeB q K=i9! q)(i:Nat) (hx:am! q.cs (x,c)):∃t,mg x=b! (bS! c):=let ⟨t,z⟩:=zux e x c (_x hx);⟨t,W.mg_of X G z⟩
end
def Fq(K:W.Frag)(mg:Str->aL!)(x:Str)(st:Stmt):k!:=∃f fd,mg x=a0! f/\Fun K x x st f fd
class Hs (P:Program)(w:World)(K:W.Frag)(mg:Str->aL!)(base:Heap)(CX:CXT)(x:Str)(n:outParam Nat)(M:outParam Mir):k! where h:Has P w K mg R! CX x n M
structure Rm(P:Program)(w:World)(K:W.Frag)(mg:Str->aL!)(base:Heap)(k:Nat)(A:Around):k! where r:z2z k A
section
variable {P:Program}{w:World}{K:W.Frag}{mg:Str->aL!}{base:Heap}{k n:Nat}{A:Around}
theorem Rm.units(h:Rm P w K mg R! k A):ph!+64<ng!:=h.r.units
theorem Rm.mono(h:Rm P w K mg R! k A)(l:n<=k):z2z n A:=h.r.mono l
theorem Rm.has(_:Rm P w K mg R! k A)(x:Str){M:Mir}[F:af! x n M]:Has P w K mg R! CX0 x n M:=F.h
theorem r_k{pos:Pos} {p:Pos} (hr:Rm P w K mg R! k A) (ha:RA X E0 (e::es) f) [F:af! x n M] (q:y! ((X.A,aO!,X.w,X.K,fw!,fa!)=(A,P,w,K,mg,R!))) (hk:n<=k:=by first | decide | omega) (hg:y! e6!) (aG:cm! (x==cP!)) (he:y! (au! (e::es)=dW!::ir!)) (au:ea! es (·.1)) : RE X E0 (do! x p (e::es)) (zg M f):=by cases q;exact zve F.h hr.r zkA ha hk hg aG he au
theorem Hs.tidy(h:f0! P w K mg CX x n M):f0! P w K mg CX x n (z5F M):=⟨h.h.tidy⟩
theorem yE{st:Stmt} (q:Fq K mg x st)(S:S! N ps st) (body:∀{f:Addr}{aj:Value}{A:Around}{outer:List Env}{s:Shared}{H:Hp}{E:XK},Rm P w K mg R! k (kd! x c6! f aj)->(z5v CX0 P w K mg R! N x c6! f aj A as! s H E).nox.calm=d!-> RSs (z5v CX0 P w K mg R! N x c6! f aj A as! s H E).nox E0 h2! fs) (hb:rN! (na!=a2!) (qn! (W.fnOf x x (ki st) h2! c6! aa! kV aE pm an aj ct) (dN! us)=dY! lV!))(hn:y! (a2!=n)):af! x (k+1) (Mof N n fs):= let ⟨_,_,hm,F⟩:=q;⟨zqO F hm (F.binds hb) S hn λ_ _ _ _ _ _ hr hc=>body ⟨hr⟩ hc⟩
theorem zqm{st:Stmt}{ps:ao!}(q:Fq K mg x st) (hb:rN! (na!=a2!) (qn! (W.fnOf x x (ki st) h2! c6! aa! kV aE pm an aj ct) (dN! us)=dY! lV!))(n:Nat):af! x n (λ_ _=>.no):= let ⟨_,_,hm,F⟩:=q;⟨(zr7 F hm (F.binds hb)).mono g8!⟩
end
class HsH (P:Program)(w:World)(K:W.Frag)(mg:Str->aL!)(base:Heap)(CX:CXT)(x:Str)(n:outParam Nat)(M:outParam Mir):k! where h:zrN P w K mg R! CX x n M
section
variable {P:Program}{w:World}{K:W.Frag}{mg:Str->aL!}{base:Heap}{k n:Nat}{A:Around}
theorem Rm.hasX(_:Rm P w K mg R! k A)(x:Str){M:Mir}[F:f0! P w K mg dB! x n M]:Has P w K mg R! dB! x n M:=F.h
theorem Rm.hasH(_:Rm P w K mg R! k A)(x:Str){M:Mir}[F:HsH P w K mg R! CX0 x n M]:zrN P w K mg R! CX0 x n M:=F.h
theorem z65{X:Cx} {E:XK} {CX:CXT} {es:aD!} {e:Expr} {pos:Pos} {x:Str} {p:Pos} {M:Mir} {f:FA} (hr:Rm P w K mg R! k A) (hx:kV! X E) (ha:RA X E (e::es) f) [F:f0! P w K mg CX x n M] (q:y! ((X.A,aO!,X.w,X.K,fw!,fa!)=(A,P,w,K,mg,R!))) (hk:n<=k:=by first | decide | omega) (hg:y! e6!) (aG:cm! (x==cP!)) (he:y! (au! (e::es)=dW!::ir!)) (au:ea! es (·.1)):X! (do! x p (e::es)) (zg M f):=by cases q;exact zve F.h hr.r hx ha hk hg aG he au
theorem qI{x:Str}{st:Stmt}{N ps:ao!}{k n:Nat}{fs:FS}(q:Fq K mg x st)(S:S! N ps st) (body:∀{f:Addr}{aj:Value}{A:Around}{outer:List Env}{s:Shared}{H:Hp}{E:XK},Rm P w K mg R! k (kd! x c6! f aj)->(z5v dB! P w K mg R! N x c6! f aj A as! s H E).calm=d!-> RSs (z5v dB! P w K mg R! N x c6! f aj A as! s H E) E h2! fs) (hb:rN! (na!=a2!) (qn! (W.fnOf x x (ki st) h2! c6! aa! kV aE pm an aj ct) (dN! us)=dY! lV!))(hn:y! (a2!=n)):f0! P w K mg dB! x (k+1) (kZ N n fs):= let ⟨_,_,hm,F⟩:=q;⟨znc F hm (F.binds hb) S hn λ_ _ _ _ _ _ hr hc=>body ⟨hr⟩ hc⟩
theorem zpg{x:Str}{st:Stmt}{N ps:ao!}{k n:Nat}{fs:FS}(q:Fq K mg x st)(S:S! N ps st) (body:∀{f:Addr}{aj:Value}{A:Around}{outer:List Env}{s:Shared}{H:Hp}{E:XK},kq k (kd! x c6! f aj)-> RSs (z5v CX0 P w K mg R! N x c6! f aj A as! s H E).nox E0 h2! fs) (hb:rN! (na!=a2!) (qn! (W.fnOf x x (ki st) h2! c6! aa! kV aE pm an aj ct) (dN! us)=dY! lV!))(hn:y! (a2!=n)):HsH P w K mg R! CX0 x (k+1) (Mof N n fs):= let ⟨_,_,hm,F⟩:=q;⟨znO F hm (F.binds hb) S hn λ_ _ _ _ _ _ hr=>body hr⟩
end
open PySem.W
end Dd
namespace Dd
open L2
section
variable {X:Cx}{E:XK}{e:Expr}{pos cB:Pos}
noncomputable def zuV(i:Nat)(f:FE):FS:=eO! (match ρ[i]? with
 | some (some (.int a))=>eb! (match d with | .int b=>g6! (ij! (e! (a+b))) | _=>.no)
 | _=>.no)
@[simp] theorem zv7(h:am! ρ (e! a))(hf:ay!=P! e2!):zuV i f ρ s=g6! (ij! (e! (a+b))):=by simp only[zuV,h,hf,Rb]
end
open PySem.W
end Dd
namespace Dd
open L2
noncomputable def zmE:D!->bn! h!
 | []=>b! [] | .int i::r=>(zmE r).map (i::·) | _=>none
noncomputable def zrs:D->bn! h!
 | .tup ds=>zmE ds | _=>none
noncomputable def zd1:D!->bn! f2!
 | []=>b! [] | d::ds=>match zrs d,zd1 ds with | some n,some ns=>b! (n::ns) | _,_=>none
theorem zex:∀ns:List Int,zmE ie!=b! ns
 | []=>rfl | i::r=>by simp[zmE,zex r]
theorem ziq:∀{ds:List D}{ns:List Int},zmE ds=b! ns->ds=ie!
 | [],_,e=>by simp[zmE]at e;subst e;rfl | d::r,ns,e=>by cases d with
  | int i=>
   simp only[zmE,_aj]at e;obtain⟨a,h1,rfl⟩:=e;rw[ziq h1];rfl | _=>simp[zmE]at e
theorem zjv(ns:h!):zrs (n! ie!)=b! ns:=zex ns
theorem zou(e:zrs d=b! ns):d=n! ie!:=by cases d with
 | tup ds=>rw[ziq e] | _=>simp[zrs]at e
theorem zcz:∀L:List (List Int),zd1 (on! (λns=>n! ie!))=b! L
 | []=>rfl | n::L=>by simp only[_p,zd1,zjv,zcz L]
def AtN(H:Hp)(v:V)(ns:h!):k!:=∃b,v=u! b/\cY! (n! hQ!)
theorem zl7(h:zrs d=b! ns)(dn:fN!):AtN H v ns:=by
 rw[zou h]at dn;obtain⟨a,vs,rfl,e,dd⟩:=dn;rw[(show ∀{ns:List Int}{vs:List V},oM! ie!->vs=hQ! from by
  intro ns;induction ns with
  | nil=>exact id | cons i r ih=>
   intro vs h;obtain⟨v,r',rfl,h1,h2⟩:=h;rw[yx h1,ih h2];rfl) dd]at e;exact aB! a e
theorem zcS: ∀{ds:List D}{vs:List V}{L:List (List Int)},zd1 ds=b! L->i7!->p9! (λv ns=>AtN H v ns) vs L
 | [],_,_,h,dn=>by simp only[zd1,_y]at h;subst dn;subst h;exact cB! | d::ds,_,_,h,dn=>by
  obtain⟨v,vs,rfl,h1,h2⟩:=dn;simp only[zd1]at h;split at h
  ·rename_i n ns e1 e2;cases h;exact eI! (zl7 e1 h1) (zcS e2 h2)
  ·cases h
end Dd
namespace Dd
open L2
noncomputable def lexN:h!->eG! h!
 | [],[]=>false | [],_::_=>true | _::_,[]=>false | x::a,y::b=>aj! x y (gO! a b) (dO! x y)
inductive kE:c3!->h!->k! | nil:kE [] [] | cons {i t vs ns}:kE vs ns->kE (bS! i::vs) (i::ns)
theorem kE.of_vals:∀{ns:List Int}{us:List Value},kh! hQ!->kE us ns
 | [],_,.nil=>cB! | _::_,_,.cons ⟨_,rfl⟩ r=>.cons (kE.of_vals r)
theorem kE.length:∀{us ns},kE us ns->na!=fA!
 | _,_,.nil=>rfl | _,_,.cons r=>by simp[r.length]
end Dd
namespace Dd
open L2
section
variable {X:Cx}{E:XK}
theorem AtN.tuple{O:L2.St} (I:L!) (a:AtN H v ns)(r:wV v u):∃b af,v=u! b/\u=u! b/\s.heap.IsTuple b af/\kE pa! ns:=by
 obtain⟨b,rfl,e⟩:=a;cases (show u=lh! b from r);obtain⟨af,r,pl,hz⟩:=lo! (z! (z! e));exact⟨b,fu!,rfl,rfl,pl,kE.of_vals (by exact r)⟩
end
end Dd
namespace L2
noncomputable def n3(a b c:Int):Nat:=al! (a<b) (fy! ((b-a-1) / c+1)) 0
end L2
namespace Dd
open L2
open PySem.W
theorem z0j{α β:b4!}{n:Nat}{lt:Nat->k5!}(f:α->KasT β):∀t:KasT α,d8! n (t.bind f)=A! (d8! n t) (λa=>d8! n (f a))
 | .ret a=>rfl | .ask i j k=>by
  show (id! (i<n/\j<n) (d8! n (A! (k (lt i j)) f)))=A! (id! (i<n/\j<n) (d8! n (k (lt i j)))) _;split;·exact z0j f _
  ·rfl
section
variable {N:Nat}{lt:Nat->k5!}(aD:∀i j,i<N->j<N->i≠j->lt j i=! lt i j)(tr:∀i j k,dk! i j->dk! j k->dk! i k)
noncomputable abbrev at0(p:fF!)(i:Nat):Nat:=p.getD i 0
structure PmN(N:Nat)(p:fF!):k! where pm:qJ! (iC! N)
theorem PmN.size{p:fF!}(h:PmN N p):oo!=N:=by have:=h.pm.length_eq;simpa using this
theorem PmN.bd{p:fF!}(h:PmN N p){i:Nat}(hi:i<N):ax! i<N:=by
 have hs:=h.size;have:ax! i∈p.toList:=by
  rw[at0,Array.getD,qC! (by lia)];exact Array.getElem_mem_toList _
 exact _aL.mp (h.pm.mem_iff.mp jq!)
theorem PmN.ne{p:fF!} (h:PmN N p) {i j:Nat} (hi:i<N) (hj:j<N) (aJ:i≠j):ax! i≠ax! j:=λz=>by
 have hs:=h.size;have nd:p.toList.Nodup:=h.pm.nodup_iff.mpr List.nodup_range;rw[at0,at0,Array.getD,Array.getD,qC! (by lia),qC! (by lia)]at z;have:=(_a1 (i:=i) (j:=j) (h₀:=by simpa using (by lia:i<oo!)) (h₁:=by simpa using (by lia:j<oo!)) nd).mp (by simpa using z);exact aJ jq!
theorem PmN.of{p q:fF!}(h:PmN N p)(e:q.Perm p):PmN N q:=⟨bb! (Array.perm_iff_toList_perm.mp e) h.pm⟩
def Asc(lt:Nat->k5!)(p:fF!)(k:Nat):k!:=∀i j,i<j->j<k->dk! (ax! i) (ax! j)
def Des(lt:Nat->k5!)(p:fF!)(k:Nat):k!:=∀i j,i<j->j<k->dk! (ax! j) (ax! i)
include tr
theorem Asc.more{p:fF!}{k:Nat}(h:Asc lt p k)(h1:1<=k)(e:dk! (ax! (k-1)) (ax! k)):Asc lt p (k+1):=λi j aJ hj=>by
 by_cases q:j=k
 ·subst q;by_cases q2:i=j-1;·subst q2;exact e
  ·exact tr _ _ _ (h i (j-1) (by lia) (by lia)) e
 ·exact h i j aJ (by lia)
theorem Des.more{p:fF!}{k:Nat}(h:Des lt p k)(h1:1<=k)(e:dk! (ax! k) (ax! (k-1))):Des lt p (k+1):=λi j aJ hj=>by
 by_cases q:j=k
 ·subst q;by_cases q2:i=j-1;·subst q2;exact e
  ·exact tr _ _ _ e (h i (j-1) (by lia) (by lia))
 ·exact h i j aJ (by lia)
include aD
theorem zau{p:fF!}(P:PmN N p):∀(f n0:Nat),1<=n0->n0+f<=N->Asc lt p n0->∃m,d8! N (kas_asc p f n0)=b! m/\n0<=m/\m<=n0+f/\Asc lt p m/\(m<n0+f->dk! (ax! m) (ax! (m-1)))
 | 0,n0,h1,hN,ha=>⟨n0,rfl,ak!,ak!,ha,λz=>o7! (by lia)⟩ | f+1,n0,h1,hN,ha=>by
  have b1:=P.bd (i:=n0) (by lia);have b2:=P.bd (i:=n0-1) (by lia);by_cases c:dk! i4! (ax! (n0-1))
  ·refine⟨n0,?_,ak!,by lia,ha,λ_=>c⟩;show (id! (i4!<N/\ax! (n0-1)<N) (d8! N (aF! (lt i4! (ax! (n0-1))) (KasT.ret n0) (kas_asc p f (n0+1)))))=_;rw[bP! b1 b2,_h c];rfl
  ·have e:dk! (ax! (n0-1)) i4!:=by
    rw[aD _ _ b1 b2 (P.ne (by lia) (by lia) (by lia))];simpa using c
   obtain⟨m,e1,e2,e3,e4,e5⟩:=zau P f (n0+1) (by lia) (by lia) (ha.more tr h1 e);refine⟨m,?_,by lia,by lia,e4,λz=>e5 (by lia)⟩;show (id! (i4!<N/\ax! (n0-1)<N) (d8! N (aF! (lt i4! (ax! (n0-1))) (KasT.ret n0) (kas_asc p f (n0+1)))))=_;rw[bP! b1 b2,_o c];exact e1
theorem ze8{p:fF!}(P:PmN N p):∀(f n0:Nat),1<=n0->n0+f<=N->Des lt p n0->∃m,d8! N (kas_desc f p n0 0)=b! (p,m,0)/\n0<=m/\m<=n0+f/\Des lt p m
 | 0,n0,h1,hN,ha=>⟨n0,rfl,ak!,ak!,ha⟩ | f+1,n0,h1,hN,ha=>by
  have b1:=P.bd (i:=n0) (by lia);have b2:=P.bd (i:=n0-1) (by lia);by_cases c:dk! i4! (ax! (n0-1))
  ·obtain⟨m,e1,e2,e3,e4⟩:=ze8 P f (n0+1) (by lia) (by lia) (ha.more tr h1 c);refine⟨m,?_,by lia,by lia,e4⟩;show (id! (i4!<N/\ax! (n0-1)<N) (d8! N (aF! (lt i4! (ax! (n0-1))) (al! (0 > 0) (kas_desc f (kas_rev p (n0-(0+1)) n0) (n0+1) 0) (kas_desc f p (n0+1) 0)) _)))=_;rw[bP! b1 b2,_h c,_o (by lia)];exact e1
  ·have e:dk! (ax! (n0-1)) i4!:=by
    rw[aD _ _ b1 b2 (P.ne (by lia) (by lia) (by lia))];simpa using c
   refine⟨n0,?_,ak!,by lia,ha⟩;show (id! (i4!<N/\ax! (n0-1)<N) (d8! N (aF! (lt i4! (ax! (n0-1))) _ (KasT.ask (ax! (n0-1)) i4! λd=>aF! d (.ret (p,n0,0)) (kas_desc f p (n0+1) (0+1))))))=_;rw[bP! b1 b2,_o c];show (id! (ax! (n0-1)<N/\i4!<N) (d8! N (aF! (lt (ax! (n0-1)) i4!) (.ret (p,n0,0)) (kas_desc f p (n0+1) (0+1)))))=_;rw[bP! b2 b1,_h e];rfl
omit aD tr in
theorem zmc{p:fF!} {m i:Nat} (hm:m<=oo!) (hi:i<m):at0 (kas_rev p 0 m) i=ax! (m-1-i):=by
 have e:=getElem?_mirror_all (xs:=p) (i:=0) (j:=m) hm i;rw[bP! g8! hi]at e;simp only[at0,Array.getD_eq_getD_getElem?,kas_rev];rw[e];simp
theorem zgW{p:fF!}(P:PmN N p)(hN:1<=N):∃m p',d8! N (qK! N p)=b! (m,p')/\PmN N p'/\Asc lt p' m/\1<=m/\m<=N:=by
 obtain⟨m,e1,e2,e3,e4,e5⟩:=zau aD tr P (N-1) 1 ak! (by lia) (λi j h1 h2=>by lia);unfold kas_count;rw[z0j,e1];simp only[_M];by_cases q:m=N
 ·rw[_h (by simpa using q)];exact⟨m,p,rfl,P,e4,e2,by lia⟩
 ·rw[_o (by simpa using q)];by_cases q1:m > 1
  ·rw[_h q1];have b1:=P.bd (i:=0) (by lia);have b2:=P.bd (i:=m-1) (by lia);have c:=e4 0 (m-1) (by lia) (by lia);refine⟨m,p,?_,P,e4,e2,by lia⟩;show (id! (ax! 0<N/\ax! (m-1)<N) (d8! N (aF! (lt (ax! 0) (ax! (m-1))) (KasT.ret (m,p)) _)))=_;rw[bP! b1 b2,_h c];rfl
  ·rw[_o q1];have m1:m=1:=by lia
   subst m1;have c:=e5 (by lia);obtain⟨k,f1,f2,f3,f4⟩:=ze8 aD tr P (N-(1+1)) (1+1) (by lia) (by lia) (λi j h1 h2=>by
    have:i=0:=by lia
    have:j=1:=by lia
    subst i;subst j;exact c);unfold kas_descPart;rw[z0j,f1];simp only[_M];rw[_o (by lia)];unfold kas_tail3;have P2:PmN N (kas_rev p 0 k):=P.of (mirror_perm _ _ _ _);have sz:=P.size;have iF:Asc lt (kas_rev p 0 k) k:=λi j h1 h2=>by
    rw[zmc (by lia) (by lia),zmc (by lia) (by lia)];exact f4 _ _ (by lia) (by lia)
   obtain⟨m2,g1,g2,g3,g4,_⟩:=zau aD tr P2 (N-k) k (by lia) (by lia) iF;rw[z0j,g1];exact⟨m2,kas_rev p 0 k,rfl,P2,g4,by lia,by lia⟩
theorem z6e{p:fF!}(P:PmN N p){k:Nat}(hk:k<N)(ha:Asc lt p k):∀(f l r:Nat),l<=r->r<=k->r-l<=f->(∀i,i<l->dk! (ax! i) (ax! k))->(∀i,r<=i->i<k->dk! (ax! k) (ax! i))-> ∃m,d8! N (kas_place p k f l r)=b! m/\m<=k/\(∀i,i<m->dk! (ax! i) (ax! k))/\∀i,m<=i->i<k->dk! (ax! k) (ax! i)
 | 0,l,r,h1,h2,h3,hl,hr=>⟨l,rfl,by lia,hl,λi z1 z2=>hr i (by lia) z2⟩ | f+1,l,r,h1,h2,h3,hl,hr=>by
  by_cases q:l ≥ r
  ·refine⟨l,?_,by lia,hl,λi z1 z2=>hr i (by lia) z2⟩;rw[kas_place,_h q];rfl
  ·have b1:=P.bd (i:=k) hk;have b2:=P.bd (i:=(l+r) / 2) (by lia);by_cases c:dk! (ax! k) (ax! ((l+r) / 2))
   ·obtain⟨m,e1,e2,e3,e4⟩:=z6e P hk ha f l ((l+r) / 2) (by lia) (by lia) (by lia) hl (λi z1 z2=>by
     by_cases z:i=(l+r) / 2;·subst z;exact c
     ·exact tr _ _ _ c (ha _ _ (by lia) z2));refine⟨m,?_,e2,e3,e4⟩;rw[kas_place,_o q];show (id! (ax! k<N/\ax! ((l+r) / 2)<N) (d8! N (aF! (lt (ax! k) (ax! ((l+r) / 2))) (kas_place p k f l ((l+r) / 2)) _)))=_;rw[bP! b1 b2,_h c];exact e1
   ·have e:dk! (ax! ((l+r) / 2)) (ax! k):=by
     rw[aD _ _ b1 b2 (P.ne hk (by lia) (by lia))];simpa using c
    obtain⟨m,e1,e2,e3,e4⟩:=z6e P hk ha f ((l+r) / 2+1) r (by lia) h2 (by lia) (λi z1=>by
     by_cases z:i=(l+r) / 2;·subst z;exact e
     ·exact tr _ _ _ (ha _ _ (by lia) (by lia)) e) hr;refine⟨m,?_,e2,e3,e4⟩;rw[kas_place,_o q];show (id! (ax! k<N/\ax! ((l+r) / 2)<N) (d8! N (aF! (lt (ax! k) (ax! ((l+r) / 2))) _ (kas_place p k f ((l+r) / 2+1) r))))=_;rw[bP! b1 b2,_o c];exact e1
omit aD tr in
theorem zlq{p:fF!} {k l i:Nat} (hk:k<oo!) (hl:l<=k) (hi:i<=k):at0 (bubble p k (k-l)) i=aj! i l (ax! k) (al! (l<i) (ax! (i-1)) (ax! i)):=by
 have e:=getElem?_bubble (xs:=p) (src:=k) hk (k-l) (by lia) i;simp only[at0,Array.getD_eq_getD_getElem?];rw[e];by_cases q:i=l;·rw[_h (by lia),_h q]
 ·rw[_o (by lia),_o q];by_cases q2:l<i;·rw[_h (by lia),_h q2]
  ·rw[_o (by lia),_o q2]
theorem zgO:∀(f k:Nat)(p:Array Nat),PmN N p->k+f=N->Asc lt p k->∃p',d8! N (kas_bin f p k)=b! p'/\PmN N p'/\Asc lt p' N
 | 0,k,p,P,hk,ha=>mH! p P (by rw[<- hk];exact ha) | f+1,k,p,P,hk,ha=>by
  obtain⟨l,e1,e2,e3,e4⟩:=z6e aD tr P (k:=k) (by lia) ha k 0 k g8! ak! (by lia) (λi z=>o7! (by lia)) (λi z1 z2=>cN! z1 (by lia));have sz:=P.size;have P2:PmN N (bubble p k (k-l)):=P.of (bubble_perm _ _ _);have iF:Asc lt (bubble p k (k-l)) (k+1):=λi j h1 h2=>by
   rw[zlq (by lia) e2 (by lia),zlq (by lia) e2 (by lia)];by_cases qi:i=l
   ·rw[_h qi,_o (by lia),_h (by lia)];exact e4 (j-1) (by lia) (by lia)
   ·rw [_o qi];by_cases qj:j=l
    ·rw[_h qj,_o (by lia)];exact e3 i (by lia)
    ·rw[_o qj];by_cases q1:l<i
     ·rw[_h q1,_h (by lia)];exact ha _ _ (by lia) (by lia)
     ·rw[_o q1];by_cases q2:l<j
      ·rw[_h q2];by_cases q3:j-1=i;·lia
       ·exact ha _ _ (by lia) (by lia)
      ·rw[_o q2];exact ha _ _ h1 (by lia)
  obtain⟨p',g1,g2,g3⟩:=zgO f (k+1) _ P2 (by lia) iF;refine⟨p',?_,g2,g3⟩;rw[kas_bin,z0j,e1];exact g1
theorem zjN(hN:1<=N):∃p,d8! N (kas_sort N)=b! p/\qJ! (iC! N)/\rP! (dk! i j):=by
 have P:PmN N (go! N):=⟨by rfl⟩;obtain⟨m,p,e1,e2,e3,e4,e5⟩:=zgW aD tr P hN;have fin:∀p:Array Nat,PmN N p->Asc lt p N->rP! (dk! i j):=λp P ha=>by
  rw[List.pairwise_iff_getElem];intro i j hi hj aJ;have sz:=P.size;have gE:j<oo!:=by simpa using hj
  have:=ha i j aJ (by lia);rw[at0,at0,Array.getD,Array.getD,qC! (by lia),qC! gE]at this;simpa using this
 unfold kas_sort;rw[z0j,e1];simp only[_M];by_cases q:m<N
 ·rw[_h q];have hm:max m 1=m:=by lia
  rw[hm];obtain⟨p',g1,g2,g3⟩:=zgO aD tr (N-m) m p e2 (by lia) e3;exact⟨p',g1,g2.pm,fin p' g2 g3⟩
 ·rw[_o q];have:m=N:=by lia
  subst this;exact mH! p e2.pm (fin p e2 e3)
end
noncomputable def zpL(fin:Bool):h!->eG! h!
 | x::a,y::b=>aj! x y (zpL fin a b) (dO! x y) | _,_=>fin
theorem ziR(f:Bool) (x y:Int) (a b:h!):zpL f (x::a) (y::b)=aj! x y (zpL f a b) (dO! x y):=U!
theorem zmq:∀ns ms:List Int,zpL (dO! fA! ms.length) ns ms=gO! ns ms
 | [],[]=>by rfl | [],_::_=>by rfl | _::_,[]=>by rfl | x::a,y::b=>by simp only[ziR,lexN,_i,Nat.add_lt_add_iff_right,(zmq a b)]
def TupAt(h:Heap)(v:Value)(ns:h!):k!:=∃a o n us,v=ag!/\cJ! a/\gk!=dK!/\h5!=.seq us n/\kE us.toList ns/\a1! ns
inductive ur (h:Heap):c3!->f2!->k! | nil:ur h [] [] | cons {v p vs ps}:TupAt h v p->ur h vs ps->ur h (v::vs) (p::ps)
theorem ur.length: ∀{vs ps},ur h vs ps->mw!
 | _,_,.nil=>rfl | _,_,.cons _ r=>by simp[r.length]
theorem ur.at_: ∀{vs ps},ur h vs ps->∀i,i<a2!->TupAt h (vs.getD i aa!) (gv! [])
 | _,_,.nil,i,hi=>by cases hi | _,_,.cons p r,0,_=>by simpa using p | _,_,.cons p r,i+1,hi=>by simpa using r.at_ i (by simpa using hi)
theorem ur.mono(k:bD! (cJ! b->dC! b)):∀{vs ps},ur h vs ps->ur h' vs ps
 | _,_,.nil=>cB! | _,_,.cons ⟨a,o,n,us,e,g,c,d,i,z⟩ r=>eI! ⟨a,o,n,us,e,k _ _ g,c,d,i,z⟩ (r.mono k)
theorem ur.tups: ∀{vs ps},ur h vs ps->∃fs,KatTups h vs fs/\fs.length=a2!/\∀v∈fs,∃i t,v=bS! i
 | _,_,.nil=>fH! [] KatTups.nil (ls! (by cases hv)) | _,_,.cons ⟨a,o,n,us,e,g,c,d,i,z⟩ r=>by
  obtain⟨fs,k,l,m⟩:=r.tups;subst e;obtain⟨ul⟩:=us;cases i with
  | nil=>exact gt! z | @cons x t ws ns i'=>
   refine⟨bS! x::fs,KatTups.cons g c d rfl k,by simp[l],ls! ?_⟩;rcases dE! hv with rfl | hv;·exact ca! _
   ·exact m v hv
section
variable {prog:Program}{w:World}{A:Around}{E:bX!}{s:Shared}
theorem zer: ∀{xs ys:List Value}{ns ms:List Int}(i:Nat),kE xs ns->kE ys ms->C (zpL fin ns ms) s->KatLex m9! w A d! fin C (xs.zip ys) i s
 | _,_,_,_,i,.nil,_,h=>by
  refine kat_nil ?_;exact h | _,_,_,_,i,.cons _,.nil,h=>by
  refine kat_nil ?_;exact h | _,_,_,_,i,.cons (i:=x) r,.cons (i:=y) r',h=>by
  refine kat_cons (_b8 (kat_go (λe=>kat_yes (zer (i+1) r r' ?_)) λe=>kat_no ?_));·simpa[ziR,(by simpa using e)] using h
  ·have h':C (dO! x y) s:=by simpa[ziR,(by simpa using e)] using h
   cases i with
   | zero=> exact oneLt_int h' | succ i=> exact kat_one _ _ (PyProof.Rows.lt_int h')
theorem znQ(hv:TupAt I! v p)(hu:TupAt I! u q)(h:C (gO! p q) s):cF! w A (keyLt' lO! v u) C E s:=by
 obtain⟨a,o,n,us,rfl,g,c,d,i,_⟩:=hv;obtain⟨b,o',n',oq,rfl,g',c',d',i',_⟩:=hu;refine kat_lt g d g' d' (zer 0 i i' ?_);rw[(show dO! us.size oq.size=dO! p.length q.length from by
  have:=i.length;have:=i'.length;simp only[_aZ]at *;simp[*]),zmq];exact h
theorem zhY(hp:ur I! vs ps)(h0:0<a2!)(h:Q lO! s):cF! w A (keyKind' eM!) Q E s:=by
 obtain⟨fs,k,l,m⟩:=hp.tups;refine kat_kind (T:=av! et!) k (by rw[l];exact h0) (ls! ?_) rfl h;obtain⟨i,t,rfl⟩:=m v hv;exact Looks.of_pure rfl
theorem zoK{G:fF!->ey!}(h2:2<=n) (hG:∀p' ay s',p'.size=n->pq! ay=p'.map (qI! it)->sI!=a!->G p' s'->Q () ay s')(h:(qK! n (go! n)).kasWp (kas_cmp m9! w A κ it) (λr s'=>r.1=n/\G r.2 s') s): kasC h4! A E sortRuns' Q (qL! κ it (go! n)) s:=by
 obtain⟨r,rfl⟩:∃r,n=r+2:=⟨n-2,by lia⟩;have iG:(go! (r+2)).size=r+2:=by simp
 rw[sortRuns'_eq];refine ps! (kasC_get ?_);dsimp only;have bi:(pq! (qL! κ it (go! (r+2)))).size=r+2:=by
  show ((go! (r+2)).map (qI! it)).size=_;rw[Array.size_map,iG]
 have iH:∀f m c,m+c<=r+2->1<=m->minRun' f m c<=r+2:=by
  intro f;induction f with
  | zero=>intro m c h _;exact h | succ f ih=>
   intro m c h h1;rw[minRun'_succ];split;·exact h
   ·exact ih _ _ (by lia) (by lia)
 have iH:=iH (r+2) (r+2) 0 ak! (by lia);simp only[bi];generalize minRun' (r+2) (r+2) 0=mr at iH;refine ps! (kasC_range ?_);show kasC _ _ _ (forIn (0::1::oj! 2 r) _ _) _ _ _;refine kasC_cons ?_;dsimp only;rw[_o (by lia)];simp only[_aq];refine ps! (kas_count_ (by lia) (by rw[iG];exact ak!) (λm p' s' lM cn hp hg=>?_) h);have dP := hp.trans iG;obtain⟨em,ou⟩:=hg;have ox := em;subst ox;dsimp only;rw[_o (by lia)];refine ps! (kasC_get ?_);rw[show (pendingOf (qL! κ it p')).back? = a! from rfl];dsimp only;refine ps! (kasC_modify (kasC_pure ?_));show kasC _ _ _ (forIn (1::oj! 2 r) _ _) _ _ _;refine kasC_cons ?_;dsimp only;rw[_h ak!];refine kasC_pure ?_;dsimp only;refine ps! (kasC_range ?_);show kasC _ _ _ (forIn (0::1::oj! 2 r) _ _) _ _ _;refine kasC_cons ?_;refine ps! (kasC_get ?_);rw[_h (show (pendingOf (setPending (qL! κ it p') (da! (pendingOf (qL! κ it p')) (0,r+2,0)))).size<=1 from _l 1)];refine kasC_pure ?_;dsimp only;exact kasC_pure (hG p' _ _ dP rfl rfl ou)
def zqq(ps:f2!)(p:fF!):k!:= (a2!<2/\p=go! a2!)\/ (2<=a2!/\a2!<64/\ru! (λi j=>gO! (gv! []) (o3! [])) rR!=b! p)\/ (2<=a2!/\ru! (λi j=>gO! (gv! []) (o3! [])) (qK! a2! (go! a2!))=b! (a2!,p))
theorem zjP{Q:SortSt->ey!} (hp:ur I! vs ps) (h2:2<=a2!) (hP:zqq ps p) (h:∀ay,oo!=dG!->pq! ay=p.map (qI! j2!)->sI!=a!->Q ay s): cF! w A ((sortRuns').run (SortSt.mk' lO! j2! #[] 7 a!)) (λr s'=>Q r.2 s') E s:=by
 have bK:=hp.length;have er:∀i j (C:Bool->Shared->Prop),i<a2!->j<a2!->C (gO! (gv! []) (o3! [])) s->kas_ask m9! w A lO! vs i j C s:=λi j C hi hj hC=>znQ (hp.at_ i hi) (hp.at_ j hj) hC;rcases hP with⟨z,_⟩ | ⟨_,fL,e⟩ | ⟨_,e⟩;·lia
 ·refine kat_run (G:=λq s'=>q=p/\s'=s) rfl (by lia) (by lia) (λq ay s' a1 a2 a3 a4=>?_) (zfb er _ p (by rw[bK];exact e) (cf! rfl));obtain⟨rfl,rfl⟩:=a4;exact h ay a1 a2 a3
 ·have hc:(qK! dG! (go! dG!)).kasWp (kas_cmp m9! w A lO! j2!) (λr s'=>r.1=dG!/\(r.2=p/\s'=s)) s:=by
   rw[<- kat_ask_eq rfl];refine zfb er _ (a2!,p) (by rw[bK];exact e) (aB! bK.symm rfl)
  have run:=zoK (E:=E) (Q:=λ_ ay s'=>Q ay s') (G:=λq s'=>q=p/\s'=s) (by lia) (λq ay s' a1 a2 a3 a4=>by obtain⟨rfl,rfl⟩:=a4;exact h ay a1 a2 a3) hc;have oy:SortSt.mk' lO! j2! #[] 7 a!=qL! lO! j2! (go! dG!):=by
   have e:=kas_range j2!;rw[show (j2!).size=dG! by simp]at e;show SortSt.mk' lO! j2! #[] 7 a!=SortSt.mk' lO! ((go! dG!).map (qI! j2!)) #[] 7 a!;rw[e]
  rw[oy];exact run
theorem zax(ho:fY! a (mv! n)) (hp:∀h',(bD! (b≠a->dp! b->dC! b))->ur h' vs ps) (ai:dG!<=aS!) (hP:zqq ps p) (h:P (.done (.ret aa!)) {s with heap:=sortedHeap I! a vs (z8a vs p)}):cF! w A (Builtin.«list.sort» (dN! [ag!])) P E s:=by
 have ha := _q ho;have bK := v! (hp I! λ_ _ _ e=>e);obtain⟨e1,g1⟩:∃e1,e5! (lG! a (λ_=>(#[]:cD!))) a (kM! #[] e1):=gy! (get?_update_seq ho λ_=>#[]);have g2:e5! (da! (da! (lG! a (λ_=>(#[]:cD!))) (o1! 0)) (kM! #[] 0)) a (kM! #[] e1):=_g _ (_g _ g1);have eA:ur (da! (da! (lG! a (λ_=>(#[]:cD!))) (o1! 0)) (kM! #[] 0)) vs ps:=hp _ (kA! (_g _ (_g _ (bb! ((_bG I! a (sM! (λ_=>(#[]:cD!)))).2 b hb) e))));rw[list_sort_plain];refine _a (listItems_at ho rfl (_a (_ch ho rfl (_a (_c2 g1 rfl (_a (_cH (_a (_df (_aS ?_) g8!)) ai)))) (by rw[_u];exact ai) g8!)));dsimp only;by_cases bQ:vs.toArray.size<2
 ·rw[_h bQ,_h bQ];have small:dG!<2:=by simpa using bQ
  have ep:p=go! a2!:=by
   rcases hP with⟨_,z⟩ | ⟨z,_⟩ | ⟨z,_⟩;·exact z
   ·lia
   ·lia
  have eo:z8a vs p=eM!:=by
   rw[ep,<- bK];unfold z8a;congr 1;apply _aR;·simp
   ·intro i h1 h2;simp[h2]
  refine _a (_m (_a (_m ?_)));dsimp only;have fM:(pq! (SortSt.mk' general' j2! #[] 7 a!)).map (·.2)=eM!:=by
   show ((j2!).map (·.2))=_;apply Array.ext_getElem?;intro i;by_cases hi:i<dG!<;>simp[hi]
  rw[fM];refine _a (_c2 g2 rfl (_a (_ch g2 rfl ?_ g8! (by rw[_u];exact _c3 ai))));simp only[_c4,_aU];rw[eo]at h;exact _m h
 ·rw[_o bQ,_o bQ];have b2:2<=a2!:=by rw[<- bK];simpa using bQ
  refine _a (zhY eA (by lia) ?_);refine _a (kW! (zjP (Q:=λay s'=>oo!=dG!/\pq! ay=p.map (qI! j2!)/\sI!=a!/\s'={s with heap:=da! (da! (lG! a (λ_=>(#[]:cD!))) (o1! 0)) (kM! #[] 0)}) eA b2 hP λay a1 a2 a3=>⟨a1,a2,a3,rfl⟩) ?_ z);rintro⟨⟨⟩,ay⟩ s' ⟨hq,iD,hf,rfl⟩;dsimp only;have fM:=kat_snds rfl iD;rw[fM,hf];refine _a (_c2 g2 rfl (_a (_ch g2 rfl ?_ g8! (by rw[_u,_X,_aZ,hq];exact _c3 ai))));simp only[_c4,_aU];exact _m h
theorem zfT(hl:s.heap.IsList l eM!) (hp:ur I! vs ps) (ai:dG!<=aS!) (hP:zqq ps p) (h:Q (u! dU!) {s with heap:=sE! vs (z8a vs p)}): cF! w A (p0! lf! [eD!]) Q E s:=by
 refine Calls.call_function_entry kind_sorted plain_sorted entry_sorted (args_sorted1 _) ?_;unfold Builtin.«sorted»;refine _a (_m (_a (collect_list hl (_a (_df ?_ (by simpa using ai))) (by simpa using ai))));have sz:eg! (oT! (oN! #[] 0) (· ++ eM!))=dU!:=by rw[Heap.size_update,size_push']
 have g:e5! (da! (oT! (oN! #[] 0) (· ++ eM!)) (mv! 0)) dU! (mv! 0):=by
  rw[<- sz];exact g9!
 have keep:bD! (dp! b->e5! (da! (oT! (oN! #[] 0) (· ++ eM!)) (mv! 0)) b o/\b≠dU!):=λb o q=>by
  have lt := _q q;refine⟨?_,_D (_aW lt)⟩;rw[_b3 _ _ _ (by rw[sz];exact _D (_aW lt)),Heap.get?_update_ne _ _ _ _ (_D lt),_b3 _ _ _ (_D lt)];exact q
 show cF! w _ _ _ _ ({s with heap:=da! (oT! (oN! #[] 0) (· ++ eM!)) (mv! 0)});rw[sz];exact _a (_aS (_av slot_list_sort (ca! g) entry_list_sort (zax g (λh' k=>hp.mono λb o q=>k b o (keep b o q).2 (keep b o q).1) ai hP (aB! _ (_m (bM! rfl h)))) (args_list_sort _)))
end
section
variable {X:Cx}{E:XK}
def zlz(K:W.Frag):aM!->Hp->eE!:=λxs H Q=>∃(l:Addr)(ys:List V)(ps:List (List Int))(p:Array Nat),xs=[eD!]/\SqL K H l ys/\p9! (λv ns=>AtN H v ns) ys ps/\(∀n∈ps,a1! n)/\zqq ps p/\ (∀i∈p.toList,i<c9!)/\r4! c9!/\∀r,H r=a!->Q (u! r) (hS! r (W! (j6! (rx! i))))
theorem zio{O:L2.St} (I:L!):∀{ys:List V}{af:List Value}{ps:List (List Int)},xw ys af->p9! (λv ns=>AtN H v ns) ys ps->(∀n∈ps,a1! n)->ur I! af ps
 | [],_,_,.nil,.nil,_=>cB! | y::ys,_,_,.cons r rs,.cons a p,hn=>by
  refine eI! ?_ (zio I rs p λn hm=>hn n (.tail _ hm));obtain⟨b,af,rfl,rfl,⟨o,g,c,k,d⟩,z⟩:=a.tuple I r;exact⟨b,o,k,af,rfl,g,c,d,z,hn _ in!⟩
theorem zfz:jy! X lf! (zlz X.K):=by
 intro ae s O H xs us Q I r h;obtain⟨l,ys,ps,p,rfl,hq,hp,hn,hP,cv,au,q⟩:=h;obtain⟨u,rfl,rx⟩:=k2!;cases rx;obtain⟨af,r',pl,hz⟩:=lU!;have ao:=r'.length;refine zfT (ps:=ps) (p:=p) pl.isList (zio I r' hp hn) (by lia) hP ?_;obtain⟨c',e⟩:=sortedAll_at I! af (z8a af p);refine⟨u! dU!,_,I.laid (t':=s.toks) (λb o z=>sortedAll_old z) (_c1 _) (show kF aO! X.w _ (sE! af (z8a af p)) _ (W! (j6! (rx! i))) from⟨?_,_,c',z9z r' p.toList cv,e⟩),rfl,q _ (sf! (_c1 _))⟩;rw[_X,au];exact hz
noncomputable def zr3(L:f2!):bn! fF!:= al! (aA!<2) (b! (go! aA!)) (al! (aA!<64) (kev aA! (λi j=>gO! (cC! i) (cC! j)) (kas_sort aA!)) (match kev aA! (λi j=>gO! (cC! i) (cC! j)) (qK! aA! (go! aA!)) with
  | some (m,p)=>id! (m=aA!) (b! p) | none=>none))
theorem zhj(h:zr3 L=b! p):zqq L p:=by
 unfold zr3 at h;split at h;·rename_i q;exact z! ⟨q,(_J h).symm⟩
 ·split at h;·rename_i q1 q2;exact T! (z! ⟨by lia,q2,h⟩)
  ·split at h
   ·rename_i m q e;split at h
    ·rename_i em;cases h;subst em;exact ig! ⟨by lia,e⟩
    ·cases h
   ·cases h
noncomputable def z8B(s:Sto)(d:D):bn! D!:=match l0! d with
 | some xs=>match zd1 xs with
  | some L=>match zr3 L with
   | some p=>id! (L.all (λn=>!n.isEmpty)=d!/\p.toList.all (λi=>dO! i w!)=d!/\r4! w!) (b! (j6! (xs.getD i an!))) | none=>none
  | none=>none
 | none=>none
noncomputable def zsH:Mir:=λds s=>match ds with
 | [d]=>match z8B s d with | some ys=>ac! (dc! ys) (g3! (s++[ys])) | none=>.no
 | _=>.no
noncomputable def zbj:Mir:=λds s=>match ds with
 | [d]=>match z8B s d with | some ys=>i! hW! | none=>.no
 | _=>.no
theorem zog(r:Rep C! H Y s)(dn:Den C! H Y d v)(e:z8B s d=b! ys)(q:∀vs,yp C! H Y ys vs->∀a,H a=a!->Q ag! (hb! bQ!)):zlz X.K [v] H Q:=by
 unfold z8B at e;split at e
 ·rename_i xs ex;split at e
  ·rename_i L eL;split at e
   ·rename_i p ep;split at e
    ·rename_i hp;cases e;obtain⟨a,ws,rfl,q1,q2⟩:=yu r ex dn;have hl:=q2.length;have cv:∀i∈p.toList,i<w!:=fb! (by simpa using _P.mp hp.2.1 i hi)
     exact⟨a,ws,L,p,rfl,z! q1,zcS eL q2,(λn hn z=>by have:=_P.mp hp.1 n hn;rw[z]at this;cases this),zhj ep,fb! (by have:=cv i hi;lia),by rw[hp.2.2];lia,q _ (zan q2 _ cv)⟩
    ·cases e
   ·cases e
  ·cases e
 ·cases e
theorem zoD:∃r,jy! X lf! r/\z2v X E r zbj:=j4! zfz.freeze (by
 unfold zbj at h;split at h
 ·rename_i d;split at h
  ·rename_i ys e;obtain⟨v,rfl,dn⟩:=lc!;exact zog r dn e λvs dv=>z0L r h dv
  ·exact h.elim
 ·exact h.elim)
end
end Dd
namespace Pg
open L2 Dd
noncomputable def z3i:mX!:=[("next",m2!),("least",m3!),(jd!,m4!),(gi!,m5!)]
@[simp] noncomputable def zcq:FS:=(xb (zdt (eIs et! q!) (zrT (eIs fS! q!))))
noncomputable def zdk:FS:=zcq
noncomputable def vL:Mir:=c1! df! zdk
@[simp] noncomputable def zcK:FS:=(xb (zdt (mF! q!) (zfn dLe dLe (E! 2) cX! (E! 4))))
noncomputable def jn:FS:=zcK
noncomputable def xa:Mir:=c1! df! jn
@[simp] noncomputable def z8b:FS:=(xb iv!)
@[simp] noncomputable def z8j:FS:=(aX! (i8! (mF! q!) (eC! cX! r!)) z8b)
@[simp] noncomputable def z2e:FS:=(xb (aG! zgs (iS! cW! [a!] 0 (bq! vL))))
noncomputable def qO:FS:=(zA z8j z2e)
noncomputable def zQ:Mir:=cK! [iK!,"many"] qO
@[simp] noncomputable def uC:FS:=(zrR 0 1 (cd! r! (ej! zeK 0 r!)))
@[simp] noncomputable def kG:FS:=(z29 (el! 1 B!) uC)
@[simp] noncomputable def z49:FS:=(xb q!)
noncomputable def z0E:FS:=(zA kG z49)
noncomputable def vX:Mir:=cK! mV! z0E
@[simp] noncomputable def zgi:FS:=(xb iv!)
@[simp] noncomputable def zgg:FS:=(aX! (i8! (bq! xa) (fg! (dx! zQ cX!))) zgi)
@[simp] noncomputable def zfI:FS:=(xb (zdt (eOp dGe (bq! z87) B!) (eOp dGt (bq! um) B!)))
noncomputable def jc:FS:=(zA zgg zfI)
noncomputable def yA:Mir:=c1! df! jc
@[simp] noncomputable def zb5:FS:=fNo
@[simp] noncomputable def zc1:FS:=(aX! (fg! (bq! yA)) zb5)
noncomputable def z7p:FS:=zc1
noncomputable def yQ:Mir:=c1! df! z7p
@[simp] noncomputable def zaw:FS:=(aX! (fg! (bq! yA)) (z95 hc!))
noncomputable def z4y:FS:=zaw
noncomputable def vE:Mir:=kZ df! 1 z4y
@[simp] noncomputable def zfM:FS:=(wy (bq! yQ))
@[simp] noncomputable def z9f:FS:=(yz 1 B!)
@[simp] noncomputable def z3I:FS:=(yz 1 (gu! vX 1 2))
@[simp] noncomputable def z4g:FS:=(g7! cW! 2 z3I)
@[simp] noncomputable def z8V:FS:=(xb r!)
noncomputable def zcd:FS:=(zA zfM (a3! z9f z4g z8V))
noncomputable def z5V:Mir:=c1! [ai!,ia!,hJ!] zcd
@[simp] noncomputable def ze6:FS:=(wy (bq! vE))
noncomputable def zgk:FS:=(zA ze6 (a3! (kj z9f) (kj z4g) (kj z8V)))
noncomputable def z62:Mir:=kZ [ai!,ia!,hJ!] 1 zgk
@[simp] noncomputable def zav:FS:=(wy (bq! yQ))
@[simp] noncomputable def z3g:FS:=(xb (eOp dEq (aG! yF (iR! cW! [a!] 0 (el! 0 B!) q!)) ae!))
noncomputable def z4w:FS:=(zA zav z3g)
noncomputable def xQ:Mir:=c1! hX! z4w
@[simp] noncomputable def zbY:FS:=(xb (aG! zn1 (zv (z54 (hP! 0 1)) iW! (yT 0 1) zU (fK! 0 r!))))
noncomputable def z6l:FS:=zbY
noncomputable def wd:Mir:=cK! [cu!,kH!] z6l
@[simp] noncomputable def z1M:FS:=(xb (dj! (jW (aU! cX!)) (ad! 0) 1 (dj! cW! cb! 1 (bl! 0))))
noncomputable def z2S:FS:=z1M
noncomputable def yZ:Mir:=c1! [eu!] z2S
@[simp] noncomputable def z6O:FS:=(yz 3 (bc! (gc! q! r!) (e4! q! (f7! 1))))
@[simp] noncomputable def z74:FS:=(xb (dj! kw! (ad! 2) 1 (bc! (gc! r! q!) (e4! r! (f7! 0)))))
noncomputable def z9m:FS:=(zA z6O z74)
noncomputable def xW:Mir:=Mof [jr!,"at_line",qM!,"kept"] 3 z9m
@[simp] noncomputable def zd5:FS:=(xb (eIf (e9! (eOp zeK (iQ! 0 r!) (E! 2)) B!) ae! d5!))
noncomputable def z91:FS:=zd5
noncomputable def wG:Mir:=cK! [cu!,lz!] z91
@[simp] noncomputable def z1a:FS:=(yz 1 (eLR (b6! 0)))
@[simp] noncomputable def z0Z:FS:=(xb (dj! (zP r!) cb! 1 (dj! cW! cb! 1 (eIf (e9! q! r!) ae! B!))))
noncomputable def z1X:FS:=(zA z1a z0Z)
noncomputable def xV:Mir:=c1! [me!,lA!] z1X
@[simp] noncomputable def z7Q:FS:=(xb (dj! cW! cb! 1 (gu! wd 1 0)))
noncomputable def z2h:FS:=z7Q
noncomputable def xR:Mir:=cK! [jr!,kH!] z2h
@[simp] noncomputable def zaF(Mr:Mir):FS:=(xb (cl! (hx! 0) B!))
@[simp] noncomputable def z9v(Mr:Mir):FS:=(aX! (e9! cX! ae!) (zaF Mr))
@[simp] noncomputable def z35(Mr:Mir):FS:=(xb (aG! zn1 (zv (z2G (aU! (hx! 0))) (dw! 0) (yT 1 2) zU (gA! (gA! (ek! wG B! r!) N!) (aG! Mr (zg xW (zb q! (ib! B! 1))))))))
noncomputable def z1c(Mr:Mir):FS:=(zA (z9v Mr) (z35 Mr))
def yM:Nat->Mir
 | 0=>λ_ _=>.no | k+1=>c1! [jr!] (z1c (yM k))
noncomputable def xJ:Mir:=yM 4
@[simp] noncomputable def zcC:FS:=(xb iv!)
@[simp] noncomputable def zcG:FS:=(aX! (fg! (bq! xa)) zcC)
@[simp] noncomputable def z57:FS:=(xb (aG! zgs (iS! cW! (ad! 0) 1 (ek! zQ r! cX!))))
noncomputable def z7c:FS:=(zA zcG z57)
noncomputable def uy:Mir:=c1! df! z7c
@[simp] noncomputable def z85:FS:=fNo
@[simp] noncomputable def z8s:FS:=(aX! (fg! (bq! uy)) z85)
noncomputable def z2X:FS:=z8s
noncomputable def yP:Mir:=c1! df! z2X
@[simp] noncomputable def z6s:FS:=(aX! (fg! (bq! uy)) (z95 je!))
noncomputable def z8x:FS:=z6s
noncomputable def z11:Mir:=kZ df! 1 z8x
@[simp] noncomputable def z8v:FS:=(wy (bq! yP))
@[simp] noncomputable def z84:FS:=(wy (bN! yP 1))
@[simp] noncomputable def z8h:FS:=fNo
@[simp] noncomputable def z8A:FS:=(aX! (eC! cX! (hR! 1)) z8h)
@[simp] noncomputable def z2i:FS:=(xb (aG! yZ (dj! (zP (bN! yZ 1)) (ad! 0) 1 (cM! xR))))
noncomputable def z3n:FS:=(zA z8v (a3! z84 z8A z2i))
noncomputable def vF:Mir:=cK! mV! z3n
@[simp] noncomputable def z80:FS:=(wy (bq! yP))
@[simp] noncomputable def kz:FS:=(xb (bq! xJ))
noncomputable def z2V:FS:=(zA z80 kz)
noncomputable def vI:Mir:=c1! [eu!] z2V
@[simp] noncomputable def z7z:FS:=(wy (bq! z11))
noncomputable def z8m:FS:=(zA z7z (kj kz))
noncomputable def z14:Mir:=kZ [eu!] 1 z8m
@[simp] noncomputable def z7a:FS:=(yz 1 (bq! vI))
@[simp] noncomputable def z7F:FS:=fNo
@[simp] noncomputable def z6q:FS:=(aX! (zlM (el! 1 ae!) (el! 1 d5!)) z7F)
@[simp] noncomputable def jq:FS:=(yz 2 (eLR (aU! cX!)))
@[simp] noncomputable def jo:FS:=(xb (dj! (zP N!) (fl! 2 1 0) 3 (dj! cW! (fl! 1 3 2) 3 (gA! (fK! 0 (gu! wG 1 3)) (aG! xJ (zg xW (fr! N! 3 1)))))))
noncomputable def z21:FS:=(zA z7a (a3! z6q jq jo))
noncomputable def qT:Mir:=c1! [eu!,op!,lA!] z21
@[simp] noncomputable def z5e:FS:=(yz 1 (bq! z14))
@[simp] noncomputable def z5g:FS:=(aX! (zlM (el! 1 ae!) (el! 1 d5!)) (z95 jf!))
noncomputable def z7R:FS:=(zA z5e (a3! z5g (kj jq) (kj jo)))
noncomputable def qR:Mir:=kZ [eu!,op!,lA!] 1 z7R
@[simp] noncomputable def vb:FS:=(yz 2 (zaR (aU! (bq! xV))))
@[simp] noncomputable def xu:FS:=(wy (zdB N! (ek! vF (db! 2 d5!) be!)))
@[simp] noncomputable def wZ:FS:=(g7! (zP r!) 3 xu)
@[simp] noncomputable def qK:FS:=(xb N!)
noncomputable def jk:FS:=(a3! vb wZ qK)
noncomputable def ww:Mir:=cK! [me!,no!,"products",eu!] jk
noncomputable def z1G:FS:=(a3! (kj vb) (kj wZ) (kj qK))
noncomputable def wv:Mir:=kZ [me!,no!,"products",eu!] 2 z1G
@[simp] noncomputable def vP:FS:=(yz 1 (zmu q! (bq! um)))
@[simp] noncomputable def vR:FS:=(xb (dD! r! (bc! (bc! (gc! q! r!) (vG (aU! B!))) (e4! q! (f7! 1)))))
noncomputable def ut:FS:=(zA vP vR)
noncomputable def yb:Mir:=c1! [ai!,"at"] ut
@[simp] noncomputable def z1h:FS:=(xb (zmu q! (aG! z87 (iR! cW! [a!] 0 (el! 0 B!) q!))))
noncomputable def z1K:FS:=z1h
noncomputable def xo:Mir:=c1! hX! z1K
@[simp] noncomputable def z6P:FS:=(xb (iR! (jW (aU! cX!)) cb! 1 (el! 1 q!) r!))
noncomputable def z8H:FS:=z6P
noncomputable def qp:Mir:=cK! [ai!,qN!] z8H
@[simp] noncomputable def zdI:FS:=(xb (zdt (eIs gj! q!) (zij z3i t! q!)))
noncomputable def z8J:FS:=zdI
noncomputable def vU:Mir:=c1! df! z8J
@[simp] noncomputable def zbJ:FS:=(xb (eIf (e9! q! (bG! gi!)) (bc! (e4! r! ae!) (gc! r! ae!)) r!))
noncomputable def zfi:FS:=zbJ
noncomputable def z03:Mir:=cK! [cv!,kH!] zfi
@[simp] noncomputable def zdX:FS:=(zgl (bq! yb) (yT 1 2))
@[simp] noncomputable def z7y:FS:=(xb (dD! (zmu N! (bN! um 2)) (qt (b6! 1))))
noncomputable def z8Q:FS:=(zA zdX z7y)
noncomputable def jh:Mir:=c1! [ai!,qO!,qP!] z8Q
@[simp] noncomputable def zba:FS:=(zgl (bq! yb) (yT 1 2))
@[simp] noncomputable def zbZ:FS:=(xb (dD! (bN! xo 2) (qt (b6! 1))))
noncomputable def z7o:FS:=(zA zba zbZ)
noncomputable def uA:Mir:=c1! [ai!,qO!,qP!] z7o
@[simp] noncomputable def zfX:FS:=(yz 1 (bq! xo))
@[simp] noncomputable def zfP:FS:=(xb (dD! r! (cM! qp)))
noncomputable def zcn:FS:=(zA zfX zfP)
noncomputable def z0h:Mir:=c1! [ai!,hh!] zcn
@[simp] noncomputable def zdo:FS:=(xb (dD! B! (qt zj)))
@[simp] noncomputable def zdl:FS:=(aX! (e9! (hx! 0) B!) zdo)
@[simp] noncomputable def ze1:FS:=(xb (dD! B! (dx! qp B!)))
noncomputable def z99:FS:=(zA zdl ze1)
noncomputable def jm:Mir:=c1! hX! z99
@[simp] noncomputable def zae:FS:=fNo
@[simp] noncomputable def zah:FS:=(aX! (fg! (bq! vU)) zae)
noncomputable def z4X:FS:=zah
noncomputable def uI:Mir:=c1! df! z4X
@[simp] noncomputable def z22:FS:=(aX! (fg! (bq! vU)) (z95 hd!))
noncomputable def z3w:FS:=z22
noncomputable def uK:Mir:=kZ df! 1 z3w
@[simp] noncomputable def zci:FS:=(yz 2 (ztH z3i q!))
@[simp] noncomputable def z4S:FS:=(zgl (zeu 2 [(m2!,jh),(m3!,uA),(m4!,z0h),(m5!,jm)] (b6! 1)) (yT 3 4))
@[simp] noncomputable def z53:FS:=(xb (dD! be! (iS! (jW (aU! (hR! 1))) (fl! 4 1 3) 3 (eIf (eT! (zd4 t!) be! q!) (eOp z3Y (bl! 3) (bl! 2)) B!))))
noncomputable def z7Y:FS:=(a3! zci z4S z53)
noncomputable def vK:Mir:=cK! [cv!,ai!,"deal",hh!,"divided"] z7Y
@[simp] noncomputable def z0K:FS:=(wy (bq! uI))
@[simp] noncomputable def z10:FS:=(wy (bN! yQ 1))
noncomputable def qD:FS:=(zA z0K z10)
noncomputable def yd:Mir:=cK! dg! qD
@[simp] noncomputable def uo:FS:=(wy (bq! uK))
@[simp] noncomputable def uw:FS:=(wy (bN! vE 1))
noncomputable def wJ:FS:=(zA uo uw)
noncomputable def zB:Mir:=kZ dg! 2 wJ
@[simp] noncomputable def zaH:FS:=(wy (cM! yd))
@[simp] noncomputable def z9N:FS:=fNo
@[simp] noncomputable def zat:FS:=(aX! (tOf (bN! xQ 1)) z9N)
noncomputable def z55:FS:=(zA zaH zat)
noncomputable def wM:Mir:=cK! dg! z55
@[simp] noncomputable def zjD:FS:=(wy (cM! wM))
@[simp] noncomputable def zjG:FS:=(zgl (cM! vK) (yT 2 3))
@[simp] noncomputable def zfm:FS:=(yz 4 (aG! zV (zv (z54 (hP! 1 3)) (fd! 1 2 a!) (yT 2 3) zU (ks! 2 (fK! 3 (ce! 0 1))))))
@[simp] noncomputable def zeJ:FS:=(xb (gu! z03 0 4))
noncomputable def zi8:FS:=(zA zjD (a3! zjG zfm zeJ))
noncomputable def M_step:Mir:=cK! [cv!,ai!,hh!,lB!,"left"] zi8
@[simp] noncomputable def z83:FS:=(wy (cM! wM))
@[simp] noncomputable def z8i:FS:=(zgl (cM! vK) (yT 2 3))
@[simp] noncomputable def z2c:FS:=(xb (aG! zV (zv (z54 (ib! (aG! xV (hR! 1)) 3)) (fd! 0 2 a!) (yT 2 3) zU (dx! z03 (bc! (bc! (gc! N! r!) (vG (aU! (bc! (ce! 2 1) be!)))) (e4! N! (f7! 1)))))))
noncomputable def z3j:FS:=(a3! z83 z8i z2c)
noncomputable def vH:Mir:=cK! [cv!,ai!,hh!,lB!] z3j
@[simp] noncomputable def zmI:FS:=(wy (cM! yd))
@[simp] noncomputable def zdN:FS:=(yz 2 (zaR (b6! 1)))
@[simp] noncomputable def z9Q:FS:=(wy (zdB N! (dx! M_step (db! 2 d5!))))
@[simp] noncomputable def zhQ:FS:=(z29 (fg! (aG! xQ (db! 2 d5!))) z9Q)
@[simp] noncomputable def zgz:FS:=(xb N!)
noncomputable def zmd:FS:=(zA zmI (a3! zdN zhQ zgz))
noncomputable def zjw:Mir:=cK! [cv!,ai!,"lots"] zmd
@[simp] noncomputable def zkj:FS:=(wy (cM! zB))
noncomputable def zhU:FS:=(zA zkj (a3! (kj zdN) (kj zhQ) (kj zgz)))
noncomputable def X_run:Mir:=kZ [cv!,ai!,"lots"] 2 zhU
@[simp] noncomputable def jS:FS:=(xb (z1Q (zP (gc! (z5q (cM! X_run)) d5!)) (ad! 0) (yg 1) zU (cM! vH)))
noncomputable def z0f:FS:=jS
noncomputable def xT:Mir:=kZ dg! 2 z0f
@[simp] noncomputable def qC:FS:=(yz 2 (z5q (cM! xT)))
@[simp] noncomputable def z0H:FS:=(xb (ek! wv (hR! 1) N!))
noncomputable def js:FS:=(zA qC z0H)
noncomputable def yY:Mir:=kZ [cv!,ai!,no!] 2 js
@[simp] noncomputable def qA:FS:=(xb (cl! (z5q (cM! yY)) d5!))
noncomputable def jd:FS:=qA
noncomputable def xn:Mir:=kZ dg! 2 jd
@[simp] noncomputable def zdC:FS:=(xb (zdt (ek! zQ r! cX!) (eOp dEq (gu! wd 1 0) N!)))
noncomputable def z3N:FS:=zdC
noncomputable def ud:Mir:=Mof [ai!,iK!,hJ!] 3 z3N
@[simp] noncomputable def z8p:FS:=(wy (bq! yQ))
@[simp] noncomputable def z8k:FS:=(xb iv!)
@[simp] noncomputable def uY:FS:=(aX! (i8! (mF! r!) (eC! (hR! 1) (E! 3))) z8k)
@[simp] noncomputable def z1T:FS:=(zgl r! (zoW 2 3 4))
@[simp] noncomputable def z2f:FS:=(xb iv!)
@[simp] noncomputable def we:FS:=(aX! (i8! (bN! vL 2) (fOr (eT! dLe N! B!) (fg! (ek! zQ be! cX!)))) z2f)
@[simp] noncomputable def uT:FS:=(xb (zdt (eOp dEq (dj! kw! (ad! 2) 1 (fK! 0 r!)) q!) (zg ud (fr! q! 4 2))))
noncomputable def z0d:FS:=(du! z8p uY z1T we uT)
noncomputable def xj:Mir:=cK! [ai!,iK!,ia!,lB!,cu!] z0d
@[simp] noncomputable def z6g:FS:=(wy (bq! vE))
@[simp] noncomputable def z76:FS:=(zgl r! (zoW 2 3 4))
@[simp] noncomputable def z7u:FS:=(aX! (i8! (bN! vL 2) (fOr (eT! dLe N! B!) (fg! (ek! zQ be! cX!)))) (kj z2f))
@[simp] noncomputable def z7P:FS:=(xb (zdt (eOp dEq (dj! kw! (ad! 2) 1 (fK! 0 r!)) q!) (zg ud (fr! q! 4 2))))
noncomputable def z1P:FS:=(du! z6g (kj uY) z76 z7u z7P)
noncomputable def wI:Mir:=kZ [ai!,iK!,ia!,lB!,cu!] 2 z1P
@[simp] noncomputable def z7m:FS:=(xb (aG! qR (cM! xn)))
noncomputable def ky:FS:=z7m
noncomputable def xi:Mir:=kZ dg! 2 ky
@[simp] noncomputable def z51:FS:=(xb (cl! (iR! (zP (cM! xi)) cb! 1 (eC! (gu! wd 1 0) B!) r!) B!))
noncomputable def z2j:FS:=z51
noncomputable def qm:Mir:=kZ dg! 2 z2j
@[simp] noncomputable def z2x:FS:=(xb (vG (zb be! (ib! (dj! (zP r!) (ad! 3) 1 (ej! z3Y 1 q!)) 2))))
@[simp] noncomputable def zbU:FS:=(yz 2 (cM! qm))
@[simp] noncomputable def zbW:FS:=(yz 3 (bN! z62 1))
noncomputable def z2n:FS:=(a3! zbU zbW (kj z2x))
noncomputable def uj:Mir:=kZ [cv!,ai!,cu!,ia!] 2 z2n
@[simp] noncomputable def z5i:FS:=(xb (ce! 0 1))
@[simp] noncomputable def z5y:FS:=(aX! (eT! dLt r! cX!) z5i)
@[simp] noncomputable def z5k:FS:=(xb B!)
noncomputable def jg:FS:=(zA z5y z5k)
noncomputable def ve:Mir:=cK! [mf!,qQ!] jg
@[simp] noncomputable def z4M:FS:=(yz 2 B!)
@[simp] noncomputable def z1v:FS:=(yz 2 (iQ! 2 (fK! 3 (zd 4))))
@[simp] noncomputable def z17:FS:=(z5S (z54 (hP! 0 1)) (yT 3 4) z1v)
@[simp] noncomputable def zc5:FS:=(xb N!)
noncomputable def z6w:FS:=(a3! z4M z17 zc5)
noncomputable def kL:Mir:=cK! [eh!,d0!,pt!,qR!,lC!] z6w
@[simp] noncomputable def z27:FS:=(xb (eOp dEq (aG! yF (iR! cW! [a!] 0 (eT! dGt q! B!) q!)) ae!))
noncomputable def z3v:FS:=z27
noncomputable def xG:Mir:=c1! [bL!] z3v
@[simp] noncomputable def zbE:FS:=(yz 1 B!)
@[simp] noncomputable def z15:FS:=(yz 3 N!)
@[simp] noncomputable def z1s:FS:=(zrR 1 3 (cd! be! (ej! zeK 1 be!)))
@[simp] noncomputable def z0R:FS:=(z29 (el! 3 B!) z1s)
@[simp] noncomputable def zbu:FS:=(g7! cW! 2 (zA z15 z0R))
@[simp] noncomputable def zcF:FS:=(xb r!)
noncomputable def z7d:FS:=(a3! zbE zbu zcF)
noncomputable def z1B:Mir:=c1! [kI!,hK!,cw!,d0!] z7d
@[simp] noncomputable def zc7:FS:=(yz 2 (zaR zj))
@[simp] noncomputable def zbi:FS:=(yz 4 B!)
@[simp] noncomputable def zcc:FS:=(yz 4 (iQ! 4 (fK! 5 (zd 6))))
@[simp] noncomputable def zbD:FS:=(z5S (z54 (hP! 3 1)) (yT 5 6) zcc)
@[simp] noncomputable def zce:FS:=(wy (zdB N! (zd 4)))
@[simp] noncomputable def zcB:FS:=(g7! cW! 3 (a3! zbi zbD zce))
@[simp] noncomputable def zc0:FS:=(xb (bN! zV 2))
noncomputable def zdb:FS:=(a3! zc7 zcB zc0)
noncomputable def z8N:Mir:=z5F (cK! [js!,kI!,hK!,gm!,pt!,eh!,d0!] zdb)
@[simp] noncomputable def z1n:FS:=(yz 2 (zaR zj))
@[simp] noncomputable def vV:FS:=(yz 4 B!)
@[simp] noncomputable def jf:FS:=(yz 4 (iQ! 4 (fK! 5 (zd 6))))
@[simp] noncomputable def uc:FS:=(z5S (z54 (hP! 3 1)) (yT 5 6) jf)
@[simp] noncomputable def wK:FS:=(wy (zdB N! (zd 4)))
@[simp] noncomputable def z1k:FS:=(g7! cW! 3 (a3! vV uc wK))
@[simp] noncomputable def jb:FS:=(xb (bN! zV 2))
noncomputable def z1U:FS:=(a3! z1n z1k jb)
noncomputable def vS:Mir:=z5F (cK! ["_law_table_here",kI!,hK!,gm!,pt!,eh!,d0!] z1U)
@[simp] noncomputable def z1J:FS:=(xb (dj! (ep! 0) (ad! 0) 1 (dj! (ep! 0) cb! 1 (aG! zeb (ej! dEq 0 r!)))))
noncomputable def z3b:FS:=z1J
noncomputable def xE:Mir:=c1! [fV!] z3b
@[simp] noncomputable def zc8:FS:=(xb (zaR (aU! (ks! 0 (eOp zeL (E! 10) (E! 18))))))
@[simp] noncomputable def zcj:FS:=(aX! (eT! dGe q! (eOp zeL (E! 10) (E! 18))) zc8)
@[simp] noncomputable def zcD:FS:=(yz 1 B!)
@[simp] noncomputable def z4P:FS:=(yz 3 (eOp zeK (gA! (bc! (bc! (ej! zeK 0 (E! pu!)) (gA! (E! 7919) N!)) ae!) (E! 48271)) (E! 2147483647)))
@[simp] noncomputable def z4C:FS:=(yz 3 (eOp zeK (bc! (bc! (fK! 3 be!) (gA! (E! 69621) N!)) (E! 7)) (E! mg!)))
@[simp] noncomputable def z4T:FS:=(yz 1 (bc! (fK! 1 (E! mg!)) be!))
@[simp] noncomputable def z4O:FS:=(g7! (jW (aU! (E! 64))) 2 (a3! z4P z4C z4T))
@[simp] noncomputable def zcf:FS:=(xb (zaR (b6! 1)))
noncomputable def z2o:FS:=(zA zcj (a3! zcD z4O zcf))
noncomputable def kK:Mir:=c1! ["_law_cell",cw!,"_law_j",oq!] z2o
@[simp] noncomputable def z5l:FS:=(yz 2 cX!)
@[simp] noncomputable def z5t:FS:=(yz 3 (iS! (ep! 2) (fm! 0 1) 2 (dx! z8N (iS! (zP r!) (ad! 2) 1 (bl! 0)))))
@[simp] noncomputable def z5f:FS:=(xb (dj! (ep! 2) (ad! 3) 1 (dj! cW! cb! 1 (bl! 0))))
noncomputable def z6h:FS:=(a3! z5l z5t z5f)
noncomputable def jY:Mir:=cK! [eh!,d0!,fV!,qS!] z6h
@[simp] noncomputable def vA:FS:=(yz 2 cX!)
@[simp] noncomputable def vC:FS:=(yz 3 (iS! (ep! 2) (fm! 0 1) 2 (dx! vS (iS! (zP r!) (ad! 2) 1 (bl! 0)))))
@[simp] noncomputable def vx:FS:=(xb (dj! (ep! 2) (ad! 3) 1 (dj! cW! cb! 1 (bl! 0))))
noncomputable def ju:FS:=(a3! vA vC vx)
noncomputable def wP:Mir:=cK! [eh!,d0!,fV!,qS!] ju
@[simp] noncomputable def z8d:FS:=(xb (qt (dT! (bG! jd!) (eC k0!) (eC k6!) (bG! gi!) zj)))
noncomputable def z9H:FS:=z8d
noncomputable def jH:Mir:=Mof [] 0 z9H
@[simp] noncomputable def z09:FS:=(yz 2 (hR! 1))
@[simp] noncomputable def qQ:FS:=(yz 3 (aG! z3P (zv (z2G (b6! 1)) iW! (yT 0 1) (eT! dGt r! B!) (dD! r! q!))))
@[simp] noncomputable def z0c:FS:=(yz 4 (cl! (iR! (ep! 2) cb! 1 (e9! (ce! 0 1) (bq! um)) r!) B!))
@[simp] noncomputable def z00:FS:=(yz 5 (zgL jd! gi! (cl! (hx! 3) ae!) B! q!))
@[simp] noncomputable def z0q:FS:=(yz 5 (cl! (zv kw! (dw! 4) (yT 1 2) (el! 2 q!) N!) B!))
@[simp] noncomputable def wO:FS:=(aX! (e9! q! (eC k0!)) z0q)
@[simp] noncomputable def z08:FS:=(yz 6 (aG! um (zv kw! (dw! 4) (yT 1 2) (el! 2 q!) r!)))
@[simp] noncomputable def z0e:FS:=(yz 5 (cl! (iR! (ep! 2) (fl! 6 4 1) 3 (zlM (e9! (ce! 2 3) q!) (el! 3 r!)) be!) B!))
@[simp] noncomputable def wR:FS:=(aX! (e9! q! (eC k6!)) (zA z08 z0e))
@[simp] noncomputable def uR:FS:=(yz 7 (iR! (ep! 2) (ad! 5) 1 (el! 1 q!) r!))
@[simp] noncomputable def z24:FS:=(yz 7 (qt (b6! 4)))
@[simp] noncomputable def wk:FS:=(aX! (eT! (zd4 t!) q! (dD! (eC k6!) (eC k0!))) z24)
@[simp] noncomputable def wg:FS:=(yz 8 (eOp zft (zaR (aU! B!)) N!))
@[simp] noncomputable def z28:FS:=(z1g (zd 8) (zd 9) (eOp z3Y (bl! 9) (bl! 5)))
@[simp] noncomputable def wa:FS:=(aX! (eT! dGt (bl! 5) B!) z28)
@[simp] noncomputable def qe:FS:=(g7! (zP (zd 7)) 9 wa)
@[simp] noncomputable def wc:FS:=(yz 10 (zv (z2G (b6! 1)) [b! 8,b! 1,b! 5,a!,a!] (yT 3 4) zU (ks! 4 (gA! (ce! 0 3) (bl! 2)))))
@[simp] noncomputable def vo:FS:=(yz 11 (zaR zj))
@[simp] noncomputable def vg:FS:=(yz 12 (z1Q (ep! 2) (ad! 9) (yg 1) zU (aG! zeb (ej! dEq 0 r!))))
@[simp] noncomputable def vq:FS:=(z1g (zd 12) (zd 5) (bc! (ce! 12 5) (ce! 8 9)))
@[simp] noncomputable def z2a:FS:=(yz 12 (bc! (e4! (zd 12) ae!) (gc! (zd 12) ae!)))
@[simp] noncomputable def vm:FS:=(aX! (e9! q! (bG! gi!)) z2a)
@[simp] noncomputable def vt:FS:=(wy (zdB (zd 11) (bN! zV 12)))
@[simp] noncomputable def wf:FS:=(g7! (ep! 2) 9 (zA vg (a3! vq vm vt)))
@[simp] noncomputable def z1Z:FS:=(yz 10 (bc! (e4! (zd 10) ae!) (gc! (zd 10) ae!)))
@[simp] noncomputable def xZ:FS:=(aX! (e9! q! (bG! gi!)) z1Z)
@[simp] noncomputable def wj:FS:=(xb (dD! (bN! zV 10) (bN! zV 11)))
noncomputable def z52:FS:=(a3! z09 qQ (du! z0c z00 wO wR (du! uR wk wg qe (du! wc vo wf xZ wj))))
noncomputable def jl:Mir:=z5F (cK! [fW!,bL!,fV!,"_law_order",np!,or!,qT!,hi!,nq!,ev!,os!,"_law_lines",gm!] z52)
@[simp] noncomputable def z5j:FS:=(yz 2 (hR! 1))
@[simp] noncomputable def z5n:FS:=(yz 3 (aG! z3P (zv (z2G (b6! 1)) iW! (yT 0 1) (eT! dGt r! B!) (dD! r! q!))))
@[simp] noncomputable def z5B:FS:=(yz 4 (cl! (iR! (ep! 2) cb! 1 (e9! (ce! 0 1) (bq! um)) r!) B!))
@[simp] noncomputable def z5m:FS:=(yz 5 (zgL jd! gi! (cl! (hx! 3) ae!) B! q!))
@[simp] noncomputable def z5z:FS:=(yz 5 (cl! (zv kw! (dw! 4) (yT 1 2) (el! 2 q!) N!) B!))
@[simp] noncomputable def z5I:FS:=(aX! (e9! q! (eC k0!)) z5z)
@[simp] noncomputable def z5w:FS:=(yz 6 (aG! um (zv kw! (dw! 4) (yT 1 2) (el! 2 q!) r!)))
@[simp] noncomputable def z5o:FS:=(yz 5 (cl! (iR! (ep! 2) (fl! 6 4 1) 3 (zlM (e9! (ce! 2 3) q!) (el! 3 r!)) be!) B!))
@[simp] noncomputable def z5d:FS:=(aX! (e9! q! (eC k6!)) (zA z5w z5o))
@[simp] noncomputable def z4h:FS:=(yz 7 (iR! (ep! 2) (ad! 5) 1 (el! 1 q!) r!))
@[simp] noncomputable def z3W:FS:=(yz 7 (qt (b6! 4)))
@[simp] noncomputable def z4b:FS:=(aX! (eT! (zd4 t!) q! (dD! (eC k6!) (eC k0!))) z3W)
@[simp] noncomputable def z4l:FS:=(yz 8 (eOp zft (zaR (aU! B!)) N!))
@[simp] noncomputable def z3Q:FS:=(z1g (zd 8) (zd 9) (eOp z3Y (bl! 9) (bl! 5)))
@[simp] noncomputable def z42:FS:=(aX! (eT! dGt (bl! 5) B!) z3Q)
@[simp] noncomputable def z4a:FS:=(g7! (zP (zd 7)) 9 z42)
@[simp] noncomputable def z45:FS:=(yz 10 (zv (z2G (b6! 1)) [b! 8,b! 1,b! 5,a!,a!] (yT 3 4) zU (ks! 4 (gA! (ce! 0 3) (bl! 2)))))
@[simp] noncomputable def z3S:FS:=(yz 11 (zaR zj))
@[simp] noncomputable def z48:FS:=(yz 12 (z1Q (ep! 2) (ad! 9) (yg 1) zU (aG! zeb (ej! dEq 0 r!))))
@[simp] noncomputable def z41:FS:=(z1g (zd 12) (zd 5) (bc! (ce! 12 5) (ce! 8 9)))
@[simp] noncomputable def z4j:FS:=(yz 12 (bc! (e4! (zd 12) ae!) (gc! (zd 12) ae!)))
@[simp] noncomputable def z3H:FS:=(aX! (e9! q! (bG! gi!)) z4j)
@[simp] noncomputable def z3J:FS:=(wy (zdB (zd 11) (bN! zV 12)))
@[simp] noncomputable def z3L:FS:=(g7! (ep! 2) 9 (zA z48 (a3! z41 z3H z3J)))
@[simp] noncomputable def z44:FS:=(yz 10 (bc! (e4! (zd 10) ae!) (gc! (zd 10) ae!)))
@[simp] noncomputable def z4i:FS:=(aX! (e9! q! (bG! gi!)) z44)
@[simp] noncomputable def z4n:FS:=(xb (dD! (bN! zV 10) (bN! zV 11)))
noncomputable def z6t:FS:=(a3! z5j z5n (du! z5B z5m z5I z5d (du! z4h z4b z4l z4a (du! z45 z3S z3L z4i z4n))))
noncomputable def z1W:Mir:=z5F (cK! [fW!,bL!,fV!,"_law_order",np!,or!,qT!,hi!,nq!,ev!,os!,nr!,gm!] z6t)
@[simp] noncomputable def zaJ:FS:=(yz 2 (eOp zeK (hx! 0) r!))
@[simp] noncomputable def z9I:FS:=(z1g q! B! (eOp z3Y (hx! 0) r!))
@[simp] noncomputable def z9K:FS:=(xb N!)
noncomputable def z4U:FS:=(a3! zaJ z9I z9K)
noncomputable def zC:Mir:=cK! [dI!,qU!,hK!] z4U
@[simp] noncomputable def z8n:FS:=(xb (zdt (eIs et! q!) (zrT (eIs fS! q!))))
noncomputable def zab:FS:=z8n
noncomputable def xp:Mir:=c1! [ew!] zab
@[simp] noncomputable def jx:FS:=(xb (zdt (mF! q!) (zdt (eOp dEq cX! r!) (aG! zgs (iS! cW! [a!] 0 (bq! xp))))))
noncomputable def uG:FS:=jx
noncomputable def yj:Mir:=cK! [ew!,mh!] uG
@[simp] noncomputable def z71:FS:=(xb iv!)
@[simp] noncomputable def z1l:FS:=(aX! (i8! (mF! q!) (eT! (zd4 d!) cX! (vG (zb (E! 2) (cd! (E! 3) (E! 4)))))) z71)
@[simp] noncomputable def z7I:FS:=(xb iv!)
@[simp] noncomputable def xC:FS:=(aX! (i8! (bN! xp 1) (eT! dLt r! B!)) z7I)
@[simp] noncomputable def wB:FS:=(g7! cW! 1 xC)
@[simp] noncomputable def vY:FS:=(xb (eOp dGt (bq! um) B!))
noncomputable def uN:FS:=(a3! z1l wB vY)
noncomputable def yJ:Mir:=c1! [ew!,cw!] uN
@[simp] noncomputable def z1r:FS:=(yz 1 (bc! (E! 2) (dx! zC (E! 3))))
@[simp] noncomputable def z1j:FS:=(yz 2 (cl! (qt (dT! (E! 13) (E! fv!) (eOp zeL (E! 10) (E! 6)) (eOp zeL (E! 10) (E! 30)) (cd! (E! 3) (E! 60)))) (dx! zC (E! 6))))
@[simp] noncomputable def z1f:FS:=(yz 3 (dx! zC (E! 4)))
@[simp] noncomputable def z1p:FS:=(yz 4 (zaR zj))
@[simp] noncomputable def jD:FS:=(yz 6 (bc! (dx! zC N!) ae!))
@[simp] noncomputable def jQ:FS:=(wy (zdB (zd 4) (fK! 6 (aG! zeb (eOp dGe (dx! zC (E! 4)) be!)))))
@[simp] noncomputable def z0X:FS:=(g7! (ep! 1) 5 (zA jD jQ))
@[simp] noncomputable def z4q:FS:=(z1g (zd 4) (cM! zC) (bc! ae! (dx! zC N!)))
@[simp] noncomputable def jI:FS:=(aX! (e9! (bN! um 4) B!) z4q)
@[simp] noncomputable def z0m:FS:=(yz 7 (bc! ae! (dx! zC (E! 12))))
@[simp] noncomputable def z2P:FS:=(z1g (zd 4) (cM! zC) (db! 4 (cM! zC)))
@[simp] noncomputable def qW:FS:=(aX! (e9! (dx! zC (E! 3)) B!) z2P)
@[simp] noncomputable def z2Q:FS:=(z1g (zd 4) B! ae!)
@[simp] noncomputable def qS:FS:=(aX! (e9! (bN! um 4) B!) z2Q)
@[simp] noncomputable def z3t:FS:=(xb (dj! (zP (zd 4)) (ad! 7) 1 (fK! 1 q!)))
noncomputable def z73:FS:=(zA z1r (du! z1j z1f z1p z0X (du! jI z0m qW qS z3t)))
noncomputable def z1C:Mir:=z5F (c1! [dI!,fV!,qU!,"_law_thin",kI!,ev!,cw!,oq!] z73)
@[simp] noncomputable def z0x:FS:=(yz 2 (qt (zb (zmm r!) (dT! (ej! zl8 1 (bG! " ")) (zvn r! (yD ae!)) (ej! zl8 1 (bG! "s")) (bG! "") (dT! (eC an!) (E! 3) (vG (b6! 1)) (qt (b6! 1)) (cd! (eC eV!) (eC .dct)))))))
@[simp] noncomputable def z0C:FS:=(xb (db! 2 (dx! zC (E! 11))))
noncomputable def z0U:FS:=(zA z0x z0C)
noncomputable def xr:Mir:=cK! [dI!,fW!,hi!] z0U
@[simp] noncomputable def z4J:FS:=(yz 1 (qt (dT! (eC an!) (eC eV!) iv! d5! (dT! B! (E! 7) (eOp zeL (E! 10) (E! 30)) (bG! "") (dT! (bG! "1:0") (vG zj) (dD! B! B!) (vG (aU! ae!)) (cd! (qt (cd! ae! B!)) (eC .dct)))))))
@[simp] noncomputable def z4r:FS:=(xb (cl! (iQ! 1 (qt (cd! (dD! (dD! ae! B!) (dD! B! ae!)) (dD! (eC eV!) (E! 2))))) (dx! zC (E! 16))))
noncomputable def z7K:FS:=(zA z4J z4r)
noncomputable def kD:Mir:=c1! [dI!,hi!] z7K
@[simp] noncomputable def z0Q:FS:=(yz 2 (zaR (b6! 1)))
@[simp] noncomputable def z13:FS:=(yz 3 (zaR zj))
@[simp] noncomputable def jO:FS:=(zgl (dx! jl (db! 2 d5!)) (yT 4 5))
@[simp] noncomputable def jw:FS:=(wy (zdB N! (zd 4)))
@[simp] noncomputable def jN:FS:=(wy (zdB be! (zd 5)))
@[simp] noncomputable def z58:FS:=(z29 (fg! (aG! xG (db! 2 d5!))) (a3! jO jw jN))
@[simp] noncomputable def z59:FS:=(xb (dD! N! be!))
noncomputable def z7A:FS:=(zA z0Q (a3! z13 z58 z59))
noncomputable def z1w:Mir:=cK! [fW!,bL!,pv!,pw!,os!,js!] z7A
@[simp] noncomputable def z7N:FS:=(yz 2 (zaR (b6! 1)))
@[simp] noncomputable def z6M:FS:=(yz 3 (zaR zj))
@[simp] noncomputable def z7U:FS:=(zgl (dx! z1W (db! 2 d5!)) (yT 4 5))
@[simp] noncomputable def z6m:FS:=(wy (zdB N! (zd 4)))
@[simp] noncomputable def z6D:FS:=(wy (zdB be! (zd 5)))
@[simp] noncomputable def z6N:FS:=(z29 (fg! (aG! xG (db! 2 d5!))) (a3! z7U z6m z6D))
@[simp] noncomputable def z6i:FS:=(xb (dD! N! be!))
noncomputable def z8g:FS:=(zA z7N (a3! z6M z6N z6i))
noncomputable def z0k:Mir:=cK! [fW!,bL!,pv!,pw!,os!,js!] z8g
@[simp] noncomputable def z9P(Mr:Mir):FS:=(xb iv!)
@[simp] noncomputable def z3B(Mr:Mir):FS:=(aX! (fOr (eC! (eIs ef! r!) (eIs ef! q!)) (eC! (mF! r!) (mF! q!))) (z9P Mr))
@[simp] noncomputable def z0b(Mr:Mir):FS:=(xb (zdt (eOp dEq cX! (hR! 1)) (aG! zgs (zv (z54 (hP! 0 1)) iW! (yT 0 1) zU (cM! Mr)))))
@[simp] noncomputable def z2K(Mr:Mir):FS:=(aX! (tOf (zp0 ef! dr! r!)) (zA (z3B Mr) (z0b Mr)))
@[simp] noncomputable def zaE(Mr:Mir):FS:=(xb (zdt (ej! dEq 0 r!) (eOp dEq (eIs fS! q!) (eIs fS! r!))))
@[simp] noncomputable def zaA(Mr:Mir):FS:=(aX! (fOr (eT! dIs r! (eC an!)) (fOr (tOf (eIs fS! r!)) (tOf (eIs gj! r!)))) (zaE Mr))
@[simp] noncomputable def za1(Mr:Mir):FS:=(xb (zdt (bq! xp) (ej! dEq 0 r!)))
noncomputable def qq(Mr:Mir):FS:=(a3! (z2K Mr) (zaA Mr) (za1 Mr))
def ya:Nat->Mir
 | 0=>λ_ _=>.no | k+1=>cK! [hK!,mi!] (qq (ya k))
noncomputable def uB:Mir:=ya 5
@[simp] noncomputable def z0l:FS:=(yz 2 (dx! zC (hR! 1)))
@[simp] noncomputable def z0s:FS:=(yz 3 (qt (dT! (bc! (bl! 2) ae!) (eOp z8L (bl! 2) ae!) (eOp z8L B! (bl! 2)) B! (dT! (eC eV!) (eC an!) (bG! "1") (vG (aU! ae!)) (cd! (eOp zeL (E! 10) (E! 30)) (db! 1 (ks! 2 ae!)))))))
@[simp] noncomputable def z06:FS:=(yz 3 (db! 3 (dx! zC (E! 10))))
@[simp] noncomputable def z2L:FS:=(yz 4 (qt (dT! (bc! (bc! (gc! r! N!) (vG (b6! 3))) (e4! r! (f7! 2))) (bc! (bc! (gc! r! N!) (vG (b6! 3))) (e4! r! (f7! 2))) (bc! (gc! r! N!) (e4! r! (f7! 2))) (bN! z2t 1) zj)))
@[simp] noncomputable def qU:FS:=(yz 4 (iQ! 4 (qt (dT! (bc! (bc! (gc! r! N!) (vG (aU! B!))) (e4! r! N!)) (zqP r!) (iQ! 1 r!) (eOp zh7 (vG (aU! B!)) (hR! 1)) (cd! (bq! kD) (vG (b6! 1)))))))
@[simp] noncomputable def z2U:FS:=(xb (db! 4 (dx! zC (E! 10))))
noncomputable def z4Q:FS:=(zA z0l (du! z0s z06 z2L qU z2U))
noncomputable def ux:Mir:=cK! [dI!,"_law_row",eP!,qV!,hi!] z4Q
end Pg
set_option maxRecDepth 1000000
set_option maxHeartbeats 4000000
namespace Pm
noncomputable abbrev Tb:=f2!
noncomputable def dot(r v:h!):Int:=(ot! (λa b=>a*b) r v).sum
noncomputable def mv(T:Tb)(v:h!):h!:=ou! (λr=>eq! r)
noncomputable def ym(T:Tb):Tb:=aP! aZ! (λj=>ou! (λr=>cT! j))
noncomputable def kr(A B:Tb):Tb:=ym ((ym B).map (mv A))
noncomputable def z1N(T:Tb)(i j:Nat):Tb:=(T.take i++T.drop (i+1)).map λr=>qW! j++n9! (j+1)
noncomputable def sg(i j:Nat):Int:=al! ((i+j) % 2=0) 1 (-1)
def det:Nat->Tb->Int
 | 0,_=>0 | k+1,T=>aj! aZ! 1 (bd! (jG! 0) 0) (aP! aZ! (λj=>sg 0 j*bd! (jG! 0) j*det k (e8! 0 j))).sum
noncomputable def back(T:Tb):Tb:=aP! aZ! (λi=>aP! aZ! (λj=>eF! T*sg i j*eF! (e8! j i)))
noncomputable def one(n:Nat):Tb:=aP! n (λi=>aP! n (λj=>aj! i j 1 0))
structure Tab(n:Nat)(T:Tb):k! where
 len:aZ!=n
 row:∀r∈T,aE!=n
theorem z9F{α:b4!}{l:eX!}(h:iL!=2):∃a b,l=[a,b]:=by match l,h with | [a,b],_=>exact aN! a b rfl
theorem z88{α:b4!}{l:eX!}(h:iL!=3):∃a b c,l=[a,b,c]:=by match l,h with | [a,b,c],_=>exact⟨a,b,c,rfl⟩
theorem z6Q{α:b4!}{l:eX!}(h:iL!=4):∃a b c d,l=[a,b,c,d]:=by match l,h with | [a,b,c,d],_=>exact⟨a,b,c,d,rfl⟩
theorem z9t(h:Tab 2 T):∃a b c d,T=[[a,b],[c,d]]:=by
 obtain⟨r,q,rfl⟩:=z9F h.len;obtain⟨a,b,rfl⟩:=z9F (jt! r (by simp));obtain⟨c,d,rfl⟩:=z9F (jt! q (by simp));exact⟨a,b,c,d,rfl⟩
theorem zaf(h:Tab 3 T):∃a b c d e f g i j,T=[[a,b,c],[d,e,f],[g,i,j]]:=by
 obtain⟨r,q,p,rfl⟩:=z88 h.len;obtain⟨a,b,c,rfl⟩:=z88 (jt! r (by simp));obtain⟨d,e,f,rfl⟩:=z88 (jt! q (by simp));obtain⟨g,i,j,rfl⟩:=z88 (jt! p (by simp));exact⟨a,b,c,d,e,f,g,i,j,rfl⟩
theorem z9V(h:Tab 4 T):∃a b c d e f g i j k l m n o p q,T=[[a,b,c,d],[e,f,g,i],[j,k,l,m],[n,o,p,q]]:=by
 obtain⟨r1,r2,r3,r4,rfl⟩:=z6Q h.len;obtain⟨a,b,c,d,rfl⟩:=z6Q (jt! r1 (by simp));obtain⟨e,f,g,i,rfl⟩:=z6Q (jt! r2 (by simp));obtain⟨j,k,l,m,rfl⟩:=z6Q (jt! r3 (by simp));obtain⟨n,o,p,q,rfl⟩:=z6Q (jt! r4 (by simp));exact⟨a,b,c,d,e,f,g,i,j,k,l,m,n,o,p,q,rfl⟩
theorem zcr(a b c d A B C D:Int):kr [[a,b],[c,d]] [[A,B],[C,D]]=[[a*A+(b*C+0),a*B+(b*D+0)],[c*A+(d*C+0),c*B+(d*D+0)]]:=rfl
theorem zbC(a b c d e f g i j A B C D E F G I J:Int):kr [[a,b,c],[d,e,f],[g,i,j]] [[A,B,C],[D,E,F],[G,I,J]]= [[a*A+(b*D+(c*G+0)),a*B+(b*E+(c*I+0)),a*C+(b*F+(c*J+0))],[d*A+(e*D+(f*G+0)),d*B+(e*E+(f*I+0)),d*C+(e*F+(f*J+0))],[g*A+(i*D+(j*G+0)),g*B+(i*E+(j*I+0)),g*C+(i*F+(j*J+0))]]:=rfl
theorem zbN(a b c d e f g i j k l m n o p q A B C D E F G I J K L M N Oo P Q:Int):kr [[a,b,c,d],[e,f,g,i],[j,k,l,m],[n,o,p,q]] [[A,B,C,D],[E,F,G,I],[J,K,L,M],[N,Oo,P,Q]]= [[a*A+(b*E+(c*J+(d*N+0))),a*B+(b*F+(c*K+(d*Oo+0))),a*C+(b*G+(c*L+(d*P+0))),a*D+(b*I+(c*M+(d*Q+0)))], [e*A+(f*E+(g*J+(i*N+0))),e*B+(f*F+(g*K+(i*Oo+0))),e*C+(f*G+(g*L+(i*P+0))),e*D+(f*I+(g*M+(i*Q+0)))], [j*A+(k*E+(l*J+(m*N+0))),j*B+(k*F+(l*K+(m*Oo+0))),j*C+(k*G+(l*L+(m*P+0))),j*D+(k*I+(l*M+(m*Q+0)))], [n*A+(o*E+(p*J+(q*N+0))),n*B+(o*F+(p*K+(q*Oo+0))),n*C+(o*G+(p*L+(q*P+0))),n*D+(o*I+(p*M+(q*Q+0)))]]:=rfl
noncomputable def d2(a b c d:Int):Int:=a*d-b*c
noncomputable def d3(a b c d e f g h i:Int):Int:=a*d2 e f h i-b*d2 d f g i+c*d2 d e g h
noncomputable def d4(a b c d e f g h i j k l m n o p:Int):Int:=a*d3 f g h j k l n o p-b*d3 e g h i k l m o p+c*d3 e f h i j l m n p-d*d3 e f g i j k m n o
theorem zd6(k:Nat)(a b c d:Int):det (k+2) [[a,b],[c,d]]=d2 a b c d:=by
 show (1*a*d+(-1*b*c+0))=_;unfold d2;grind
theorem zb7(k:Nat)(a b c d e f g h i:Int):det (k+3) [[a,b,c],[d,e,f],[g,h,i]]=aJ! d e f g h i:=by
 rw[det];simp[List.range,List.range.loop,z1N,sg,zd6,d3];grind
theorem zcs(k:Nat)(a b c d e f g h i j l m n o p q:Int):det (k+4) [[a,b,c,d],[e,f,g,h],[i,j,l,m],[n,o,p,q]]=d4 a b c d e f g h i j l m n o p q:=by
 rw[det];simp[List.range,List.range.loop,z1N,sg,zb7,d4];grind
theorem zs9(a b c d:Int):gP! [[a,b],[c,d]]=[[d2 a b c d*d,-(d2 a b c d*b)],[-(d2 a b c d*c),d2 a b c d*a]]:=by
 have m1:∀x:Int,eF! [[x]]=x:=λx=>rfl;simp[back,List.range,List.range.loop,z1N,sg,zd6,m1,Int.neg_mul]
theorem zt4(a b c d e f g h i:Int):gP! [[a,b,c],[d,e,f],[g,h,i]]= [[aJ! d e f g h i*d2 e f h i,-(aJ! d e f g h i*d2 b c h i),aJ! d e f g h i*d2 b c e f], [-(aJ! d e f g h i*d2 d f g i),aJ! d e f g h i*d2 a c g i,-(aJ! d e f g h i*d2 a c d f)], [aJ! d e f g h i*d2 d e g h,-(aJ! d e f g h i*d2 a b g h),aJ! d e f g h i*d2 a b d e]]:=by simp[back,List.range,List.range.loop,z1N,sg,zd6,zb7,Int.neg_mul]
theorem zsv(a b c d e f g h i j l m n o p q:Int):gP! [[a,b,c,d],[e,f,g,h],[i,j,l,m],[n,o,p,q]]= let t:=d4 a b c d e f g h i j l m n o p q;[[t*d3 f g h j l m o p q,-(t*d3 b c d j l m o p q),t*d3 b c d f g h o p q,-(t*d3 b c d f g h j l m)], [-(t*d3 e g h i l m n p q),t*cH! c d i l m n p q,-(t*cH! c d e g h n p q),t*cH! c d e g h i l m], [t*d3 e f h i j m n o q,-(t*cI! d i j m n o q),t*cI! d e f h n o q,-(t*cI! d e f h i j m)], [-(t*d3 e f g i j l n o p),t*aJ! i j l n o p,-(t*aJ! e f g n o p),t*aJ! e f g i j l]]:=by simp[back,List.range,List.range.loop,z1N,sg,zb7,zcs,Int.neg_mul]
theorem assoc(hn:n=2\/n=3\/n=4)(ha:iw!)(hb:ff! B)(hc:ff! C):kr (kr A B) C=kr A (kr B C):=by
 rcases hn with rfl | rfl | rfl
 ·obtain⟨a,b,c,d,rfl⟩:=z9t ha;obtain⟨e,f,g,h,rfl⟩:=z9t hb;obtain⟨i,j,k,l,rfl⟩:=z9t hc;simp only[zcr,_cK];and_intros<;>grind
 ·obtain⟨a1,a2,a3,a4,a5,a6,a7,a8,a9,rfl⟩:=zaf ha;obtain⟨b1,b2,b3,b4,b5,b6,b7,b8,b9,rfl⟩:=zaf hb;obtain⟨c1,c2,c3,c4,c5,c6,c7,c8,c9,rfl⟩:=zaf hc;simp only[zbC,_cK];and_intros<;>grind
 ·obtain⟨a1,a2,a3,a4,a5,a6,a7,a8,a9,a10,a11,a12,ec,ed,ee,fN,rfl⟩:=z9V ha;obtain⟨b1,b2,b3,b4,b5,b6,b7,b8,b9,iI,iJ,iK,iM,iN,iO,iP,rfl⟩:=z9V hb;obtain⟨c1,c2,c3,c4,c5,c6,c7,c8,c9,pY,pZ,p6,p7,rc,rd,re,rfl⟩:=z9V hc;simp only[zbN,_cK];and_intros<;>grind
end Pm
set_option maxRecDepth 1000000
set_option maxHeartbeats 40000000
namespace Pm
theorem dm2(a b c d A B C D:Int):d2 (a*A+(b*C+0)) (a*B+(b*D+0)) (c*A+(d*C+0)) (c*B+(d*D+0))=d2 a b c d*d2 A B C D:=by simp only[d2];grind
theorem dm3(a b c d e f g i j A B C D E F G I J:Int):d3 (a*A+(b*D+(c*G+0))) (a*B+(b*E+(c*I+0))) (a*C+(b*F+(c*J+0))) (d*A+(e*D+(f*G+0))) (d*B+(e*E+(f*I+0))) (d*C+(e*F+(f*J+0))) (g*A+(i*D+(j*G+0))) (g*B+(i*E+(j*I+0))) (g*C+(i*F+(j*J+0)))=aJ! d e f g i j*d3 A B C D E F G I J:=by simp only[d3,d2];grind
theorem dm4(a b c d e f g i j k l m n o p q A B C D E F G I J K L M N Oo P Q:Int):d4 (a*A+(b*E+(c*J+(d*N+0)))) (a*B+(b*F+(c*K+(d*Oo+0)))) (a*C+(b*G+(c*L+(d*P+0)))) (a*D+(b*I+(c*M+(d*Q+0)))) (e*A+(f*E+(g*J+(i*N+0)))) (e*B+(f*F+(g*K+(i*Oo+0)))) (e*C+(f*G+(g*L+(i*P+0)))) (e*D+(f*I+(g*M+(i*Q+0)))) (j*A+(k*E+(l*J+(m*N+0)))) (j*B+(k*F+(l*K+(m*Oo+0)))) (j*C+(k*G+(l*L+(m*P+0)))) (j*D+(k*I+(l*M+(m*Q+0)))) (n*A+(o*E+(p*J+(q*N+0)))) (n*B+(o*F+(p*K+(q*Oo+0)))) (n*C+(o*G+(p*L+(q*P+0)))) (n*D+(o*I+(p*M+(q*Q+0))))=d4 a b c d e f g i j k l m n o p q*d4 A B C D E F G I J K L M N Oo P Q:=by simp only[d4,d3,d2];grind
theorem zeI(hn:n=2\/n=3\/n=4)(ha:iw!)(hb:ff! B):eF! (kr A B)=eF! A*eF! B:=by
 rcases hn with rfl | rfl | rfl
 ·obtain⟨a,b,c,d,rfl⟩:=z9t ha;obtain⟨e,f,g,h,rfl⟩:=z9t hb;rw[zcr,zd6,zd6,zd6,dm2]
 ·obtain⟨a1,a2,a3,a4,a5,a6,a7,a8,a9,rfl⟩:=zaf ha;obtain⟨b1,b2,b3,b4,b5,b6,b7,b8,b9,rfl⟩:=zaf hb;rw[zbC,zb7 1,zb7 1,zb7 1,dm3]
 ·obtain⟨a1,a2,a3,a4,a5,a6,a7,a8,a9,a10,a11,a12,ec,ed,ee,fN,rfl⟩:=z9V ha;obtain⟨b1,b2,b3,b4,b5,b6,b7,b8,b9,iI,iJ,iK,iM,iN,iO,iP,rfl⟩:=z9V hb;rw[zbN,zcs 0,zcs 0,zcs 0,dm4]
theorem zmK(hn:n=2\/n=3\/n=4)(ha:iw!)(hb:ff! B)(hv:J!=n):mv (kr A B) v=mv A (mv B v):=by
 rcases hn with rfl | rfl | rfl
 ·obtain⟨a,b,c,d,rfl⟩:=z9t ha;obtain⟨e,f,g,h,rfl⟩:=z9t hb;obtain⟨x,y,rfl⟩:=z9F hv;simp only[zcr,mv,dot,_p,_at,_b7,_aY,_cK];and_intros<;>grind
 ·obtain⟨a1,a2,a3,a4,a5,a6,a7,a8,a9,rfl⟩:=zaf ha;obtain⟨b1,b2,b3,b4,b5,b6,b7,b8,b9,rfl⟩:=zaf hb;obtain⟨x,y,z,rfl⟩:=z88 hv;simp only[zbC,mv,dot,_p,_at,_b7,_aD,List.sum_nil,_aY,_cK];and_intros<;>grind
 ·obtain⟨a1,a2,a3,a4,a5,a6,a7,a8,a9,a10,a11,a12,ec,ed,ee,fN,rfl⟩:=z9V ha;obtain⟨b1,b2,b3,b4,b5,b6,b7,b8,b9,iI,iJ,iK,iM,iN,iO,iP,rfl⟩:=z9V hb;obtain⟨x,y,z,u,rfl⟩:=z6Q hv;simp only[zbN,mv,dot,_p,_dF,_at,List.zipWith_nil_right,_b7,_aD,List.sum_nil,_aY,_cK];and_intros<;>grind
theorem zr8:one 2=[[1,0],[0,1]]:=rfl
theorem zp7:one 3=[[1,0,0],[0,1,0],[0,0,1]]:=rfl
theorem zoq:one 4=[[1,0,0,0],[0,1,0,0],[0,0,1,0],[0,0,0,1]]:=rfl
theorem za0(hn:n=2\/n=3\/n=4)(ha:iw!):kr b0! A=A/\kr A b0!=A:=by
 rcases hn with rfl | rfl | rfl
 ·obtain⟨a,b,c,d,rfl⟩:=z9t ha;rw[zr8,zcr,zcr];simp
 ·obtain⟨a1,a2,a3,a4,a5,a6,a7,a8,a9,rfl⟩:=zaf ha;rw[zp7,zbC,zbC];simp
 ·obtain⟨a1,a2,a3,a4,a5,a6,a7,a8,a9,a10,a11,a12,ec,ed,ee,fN,rfl⟩:=z9V ha;rw[zoq,zbN,zbN];simp
theorem zlC(hn:n=2\/n=3\/n=4)(hv:J!=n):mv b0! v=v:=by
 rcases hn with rfl | rfl | rfl
 ·obtain⟨x,y,rfl⟩:=z9F hv;rw[zr8];simp[mv,dot]
 ·obtain⟨x,y,z,rfl⟩:=z88 hv;rw[zp7];simp[mv,dot]
 ·obtain⟨x,y,z,u,rfl⟩:=z6Q hv;rw[zoq];simp[mv,dot]
theorem zon(hn:n=2\/n=3\/n=4):eF! b0!=1:=by
 rcases hn with rfl | rfl | rfl;·rfl
 ·rfl
 ·rfl
theorem bm2(a b c d t:Int)(ht:t=d2 a b c d)(h:t*t=1):kr [[t*d,-(t*b)],[-(t*c),t*a]] [[a,b],[c,d]]=one 2/\kr [[a,b],[c,d]] [[t*d,-(t*b)],[-(t*c),t*a]]=one 2:=by
 simp only[d2]at ht;rw[zr8,zcr,zcr];and_intros<;>grind
end Pm
set_option maxRecDepth 1000000
set_option maxHeartbeats 40000000
namespace Pm
theorem ztV(a b c d e f g h i:Int):d2 e f h i*a-d2 b c h i*d+d2 b c e f*g=aJ! d e f g h i:=by simp only[d3,d2]<;>grind
theorem ztK(a b c d e f g h i:Int):d2 e f h i*b-d2 b c h i*e+d2 b c e f*h=0:=by simp only[d2]<;>grind
theorem ztY(a b c d e f g h i:Int):d2 e f h i*c-d2 b c h i*f+d2 b c e f*i=0:=by simp only[d2]<;>grind
theorem zsq(a b c d e f g h i:Int):-d2 d f g i*a+d2 a c g i*d-d2 a c d f*g=0:=by simp only[d2]<;>grind
theorem zsb(a b c d e f g h i:Int):-d2 d f g i*b+d2 a c g i*e-d2 a c d f*h=aJ! d e f g h i:=by simp only[d3,d2]<;>grind
theorem ztI(a b c d e f g h i:Int):-d2 d f g i*c+d2 a c g i*f-d2 a c d f*i=0:=by simp only[d2]<;>grind
theorem ztw(a b c d e f g h i:Int):d2 d e g h*a-d2 a b g h*d+d2 a b d e*g=0:=by simp only[d2]<;>grind
theorem zuA(a b c d e f g h i:Int):d2 d e g h*b-d2 a b g h*e+d2 a b d e*h=0:=by simp only[d2]<;>grind
theorem ztg(a b c d e f g h i:Int):d2 d e g h*c-d2 a b g h*f+d2 a b d e*i=aJ! d e f g h i:=by simp only[d3,d2]<;>grind
theorem zsi(a b c d e f g h i:Int):a*d2 e f h i-b*d2 d f g i+c*d2 d e g h=aJ! d e f g h i:=by rfl<;>grind
theorem zs5(a b c d e f g h i:Int):-a*d2 b c h i+b*d2 a c g i-c*d2 a b g h=0:=by simp only[d2]<;>grind
theorem zuw(a b c d e f g h i:Int):a*d2 b c e f-b*d2 a c d f+c*d2 a b d e=0:=by simp only[d2]<;>grind
theorem zug(a b c d e f g h i:Int):d*d2 e f h i-e*d2 d f g i+f*d2 d e g h=0:=by simp only[d2]<;>grind
theorem zsp(a b c d e f g h i:Int):-d*d2 b c h i+e*d2 a c g i-f*d2 a b g h=aJ! d e f g h i:=by simp only[d3,d2]<;>grind
theorem ztD(a b c d e f g h i:Int):d*d2 b c e f-e*d2 a c d f+f*d2 a b d e=0:=by simp only[d2]<;>grind
theorem zua(a b c d e f g h i:Int):g*d2 e f h i-h*d2 d f g i+i*d2 d e g h=0:=by simp only[d2]<;>grind
theorem ztG(a b c d e f g h i:Int):-g*d2 b c h i+h*d2 a c g i-i*d2 a b g h=0:=by simp only[d2]<;>grind
theorem zt2(a b c d e f g h i:Int):g*d2 b c e f-h*d2 a c d f+i*d2 a b d e=aJ! d e f g h i:=by simp only[d3,d2]<;>grind
theorem bm3(a b c d e f g h i t:Int)(ht:t=aJ! d e f g h i)(h1:t*t=1):kr [[t*d2 e f h i,-(t*d2 b c h i),t*d2 b c e f],[-(t*d2 d f g i),t*d2 a c g i,-(t*d2 a c d f)],[t*d2 d e g h,-(t*d2 a b g h),t*d2 a b d e]] [[a,b,c],[d,e,f],[g,h,i]]=one 3/\kr [[a,b,c],[d,e,f],[g,h,i]] [[t*d2 e f h i,-(t*d2 b c h i),t*d2 b c e f],[-(t*d2 d f g i),t*d2 a c g i,-(t*d2 a c d f)],[t*d2 d e g h,-(t*d2 a b g h),t*d2 a b d e]]=one 3:=by
 rw[zp7,zbC,zbC];simp only[_aY,_cK];exact aw! ⟨aN! (by have c:=ztV a b c d e f g h i;grind) (by have c:=ztK a b c d e f g h i;grind) (by have c:=ztY a b c d e f g h i;grind),aN! (by have c:=zsq a b c d e f g h i;grind) (by have c:=zsb a b c d e f g h i;grind) (by have c:=ztI a b c d e f g h i;grind),aN! (by have c:=ztw a b c d e f g h i;grind) (by have c:=zuA a b c d e f g h i;grind) (by have c:=ztg a b c d e f g h i;grind)⟩ ⟨aN! (by have c:=zsi a b c d e f g h i;grind) (by have c:=zs5 a b c d e f g h i;grind) (by have c:=zuw a b c d e f g h i;grind),aN! (by have c:=zug a b c d e f g h i;grind) (by have c:=zsp a b c d e f g h i;grind) (by have c:=ztD a b c d e f g h i;grind),aN! (by have c:=zua a b c d e f g h i;grind) (by have c:=ztG a b c d e f g h i;grind) (by have c:=zt2 a b c d e f g h i;grind)⟩
theorem zsD(a b c d e f g h i j l m n o p q:Int):d3 f g h j l m o p q*a-d3 b c d j l m o p q*e+d3 b c d f g h o p q*i-d3 b c d f g h j l m*n=d4 a b c d e f g h i j l m n o p q:=by simp only[d4,d3,d2]<;>grind
theorem zsI(a b c d e f g h i j l m n o p q:Int):d3 f g h j l m o p q*b-d3 b c d j l m o p q*f+d3 b c d f g h o p q*j-d3 b c d f g h j l m*o=0:=by simp only[d3,d2]<;>grind
theorem zu6(a b c d e f g h i j l m n o p q:Int):d3 f g h j l m o p q*c-d3 b c d j l m o p q*g+d3 b c d f g h o p q*l-d3 b c d f g h j l m*p=0:=by simp only[d3,d2]<;>grind
theorem ztj(a b c d e f g h i j l m n o p q:Int):d3 f g h j l m o p q*d-d3 b c d j l m o p q*h+d3 b c d f g h o p q*m-d3 b c d f g h j l m*q=0:=by simp only[d3,d2]<;>grind
theorem zuq(a b c d e f g h i j l m n o p q:Int):-d3 e g h i l m n p q*a+cH! c d i l m n p q*e-cH! c d e g h n p q*i+cH! c d e g h i l m*n=0:=by simp only[d3,d2]<;>grind
theorem ztm(a b c d e f g h i j l m n o p q:Int):-d3 e g h i l m n p q*b+cH! c d i l m n p q*f-cH! c d e g h n p q*j+cH! c d e g h i l m*o=d4 a b c d e f g h i j l m n o p q:=by simp only[d4,d3,d2]<;>grind
theorem zul(a b c d e f g h i j l m n o p q:Int):-d3 e g h i l m n p q*c+cH! c d i l m n p q*g-cH! c d e g h n p q*l+cH! c d e g h i l m*p=0:=by simp only[d3,d2]<;>grind
theorem zuI(a b c d e f g h i j l m n o p q:Int):-d3 e g h i l m n p q*d+cH! c d i l m n p q*h-cH! c d e g h n p q*m+cH! c d e g h i l m*q=0:=by simp only[d3,d2]<;>grind
theorem zsL(a b c d e f g h i j l m n o p q:Int):d3 e f h i j m n o q*a-cI! d i j m n o q*e+cI! d e f h n o q*i-cI! d e f h i j m*n=0:=by simp only[d3,d2]<;>grind
theorem zu3(a b c d e f g h i j l m n o p q:Int):d3 e f h i j m n o q*b-cI! d i j m n o q*f+cI! d e f h n o q*j-cI! d e f h i j m*o=0:=by simp only[d3,d2]<;>grind
theorem zuf(a b c d e f g h i j l m n o p q:Int):d3 e f h i j m n o q*c-cI! d i j m n o q*g+cI! d e f h n o q*l-cI! d e f h i j m*p=d4 a b c d e f g h i j l m n o p q:=by simp only[d4,d3,d2]<;>grind
theorem zrY(a b c d e f g h i j l m n o p q:Int):d3 e f h i j m n o q*d-cI! d i j m n o q*h+cI! d e f h n o q*m-cI! d e f h i j m*q=0:=by simp only[d3,d2]<;>grind
theorem zsf(a b c d e f g h i j l m n o p q:Int):-d3 e f g i j l n o p*a+aJ! i j l n o p*e-aJ! e f g n o p*i+aJ! e f g i j l*n=0:=by simp only[d3,d2]<;>grind
theorem zsu(a b c d e f g h i j l m n o p q:Int):-d3 e f g i j l n o p*b+aJ! i j l n o p*f-aJ! e f g n o p*j+aJ! e f g i j l*o=0:=by simp only[d3,d2]<;>grind
theorem zum(a b c d e f g h i j l m n o p q:Int):-d3 e f g i j l n o p*c+aJ! i j l n o p*g-aJ! e f g n o p*l+aJ! e f g i j l*p=0:=by simp only[d3,d2]<;>grind
theorem zuE(a b c d e f g h i j l m n o p q:Int):-d3 e f g i j l n o p*d+aJ! i j l n o p*h-aJ! e f g n o p*m+aJ! e f g i j l*q=d4 a b c d e f g h i j l m n o p q:=by simp only[d4,d3,d2]<;>grind
theorem zuJ(a b c d e f g h i j l m n o p q:Int):a*d3 f g h j l m o p q-b*d3 e g h i l m n p q+c*d3 e f h i j m n o q-d*d3 e f g i j l n o p=d4 a b c d e f g h i j l m n o p q:=by rfl<;>grind
theorem zuk(a b c d e f g h i j l m n o p q:Int):-a*d3 b c d j l m o p q+b*cH! c d i l m n p q-c*cI! d i j m n o q+d*aJ! i j l n o p=0:=by simp only[d3,d2]<;>grind
theorem zsK(a b c d e f g h i j l m n o p q:Int):a*d3 b c d f g h o p q-b*cH! c d e g h n p q+c*cI! d e f h n o q-d*aJ! e f g n o p=0:=by simp only[d3,d2]<;>grind
theorem zsa(a b c d e f g h i j l m n o p q:Int):-a*d3 b c d f g h j l m+b*cH! c d e g h i l m-c*cI! d e f h i j m+d*aJ! e f g i j l=0:=by simp only[d3,d2]<;>grind
theorem ztc(a b c d e f g h i j l m n o p q:Int):e*d3 f g h j l m o p q-f*d3 e g h i l m n p q+g*d3 e f h i j m n o q-h*d3 e f g i j l n o p=0:=by simp only[d3,d2]<;>grind
theorem zuB(a b c d e f g h i j l m n o p q:Int):-e*d3 b c d j l m o p q+f*cH! c d i l m n p q-g*cI! d i j m n o q+h*aJ! i j l n o p=d4 a b c d e f g h i j l m n o p q:=by simp only[d4,d3,d2]<;>grind
theorem zub(a b c d e f g h i j l m n o p q:Int):e*d3 b c d f g h o p q-f*cH! c d e g h n p q+g*cI! d e f h n o q-h*aJ! e f g n o p=0:=by simp only[d3,d2]<;>grind
theorem zth(a b c d e f g h i j l m n o p q:Int):-e*d3 b c d f g h j l m+f*cH! c d e g h i l m-g*cI! d e f h i j m+h*aJ! e f g i j l=0:=by simp only[d3,d2]<;>grind
theorem ztR(a b c d e f g h i j l m n o p q:Int):i*d3 f g h j l m o p q-j*d3 e g h i l m n p q+l*d3 e f h i j m n o q-m*d3 e f g i j l n o p=0:=by simp only[d3,d2]<;>grind
theorem zse(a b c d e f g h i j l m n o p q:Int):-i*d3 b c d j l m o p q+j*cH! c d i l m n p q-l*cI! d i j m n o q+m*aJ! i j l n o p=0:=by simp only[d3,d2]<;>grind
theorem zsl(a b c d e f g h i j l m n o p q:Int):i*d3 b c d f g h o p q-j*cH! c d e g h n p q+l*cI! d e f h n o q-m*aJ! e f g n o p=d4 a b c d e f g h i j l m n o p q:=by simp only[d4,d3,d2]<;>grind
theorem zur(a b c d e f g h i j l m n o p q:Int):-i*d3 b c d f g h j l m+j*cH! c d e g h i l m-l*cI! d e f h i j m+m*aJ! e f g i j l=0:=by simp only[d3,d2]<;>grind
theorem zuv(a b c d e f g h i j l m n o p q:Int):n*d3 f g h j l m o p q-o*d3 e g h i l m n p q+p*d3 e f h i j m n o q-q*d3 e f g i j l n o p=0:=by simp only[d3,d2]<;>grind
theorem zsJ(a b c d e f g h i j l m n o p q:Int):-n*d3 b c d j l m o p q+o*cH! c d i l m n p q-p*cI! d i j m n o q+q*aJ! i j l n o p=0:=by simp only[d3,d2]<;>grind
theorem zsm(a b c d e f g h i j l m n o p q:Int):n*d3 b c d f g h o p q-o*cH! c d e g h n p q+p*cI! d e f h n o q-q*aJ! e f g n o p=0:=by simp only[d3,d2]<;>grind
theorem ztk(a b c d e f g h i j l m n o p q:Int):-n*d3 b c d f g h j l m+o*cH! c d e g h i l m-p*cI! d e f h i j m+q*aJ! e f g i j l=d4 a b c d e f g h i j l m n o p q:=by simp only[d4,d3,d2]<;>grind
theorem bm4(a b c d e f g h i j l m n o p q t:Int)(ht:t=d4 a b c d e f g h i j l m n o p q)(h1:t*t=1):kr [[t*d3 f g h j l m o p q,-(t*d3 b c d j l m o p q),t*d3 b c d f g h o p q,-(t*d3 b c d f g h j l m)],[-(t*d3 e g h i l m n p q),t*cH! c d i l m n p q,-(t*cH! c d e g h n p q),t*cH! c d e g h i l m],[t*d3 e f h i j m n o q,-(t*cI! d i j m n o q),t*cI! d e f h n o q,-(t*cI! d e f h i j m)],[-(t*d3 e f g i j l n o p),t*aJ! i j l n o p,-(t*aJ! e f g n o p),t*aJ! e f g i j l]] [[a,b,c,d],[e,f,g,h],[i,j,l,m],[n,o,p,q]]=one 4/\kr [[a,b,c,d],[e,f,g,h],[i,j,l,m],[n,o,p,q]] [[t*d3 f g h j l m o p q,-(t*d3 b c d j l m o p q),t*d3 b c d f g h o p q,-(t*d3 b c d f g h j l m)],[-(t*d3 e g h i l m n p q),t*cH! c d i l m n p q,-(t*cH! c d e g h n p q),t*cH! c d e g h i l m],[t*d3 e f h i j m n o q,-(t*cI! d i j m n o q),t*cI! d e f h n o q,-(t*cI! d e f h i j m)],[-(t*d3 e f g i j l n o p),t*aJ! i j l n o p,-(t*aJ! e f g n o p),t*aJ! e f g i j l]]=one 4:=by
 rw[zoq,zbN,zbN];simp only[_aY,_cK];exact aw! ⟨⟨(by have c:=zsD a b c d e f g h i j l m n o p q;grind),(by have c:=zsI a b c d e f g h i j l m n o p q;grind),(by have c:=zu6 a b c d e f g h i j l m n o p q;grind),(by have c:=ztj a b c d e f g h i j l m n o p q;grind)⟩,⟨(by have c:=zuq a b c d e f g h i j l m n o p q;grind),(by have c:=ztm a b c d e f g h i j l m n o p q;grind),(by have c:=zul a b c d e f g h i j l m n o p q;grind),(by have c:=zuI a b c d e f g h i j l m n o p q;grind)⟩,⟨(by have c:=zsL a b c d e f g h i j l m n o p q;grind),(by have c:=zu3 a b c d e f g h i j l m n o p q;grind),(by have c:=zuf a b c d e f g h i j l m n o p q;grind),(by have c:=zrY a b c d e f g h i j l m n o p q;grind)⟩,⟨(by have c:=zsf a b c d e f g h i j l m n o p q;grind),(by have c:=zsu a b c d e f g h i j l m n o p q;grind),(by have c:=zum a b c d e f g h i j l m n o p q;grind),(by have c:=zuE a b c d e f g h i j l m n o p q;grind)⟩⟩ ⟨⟨(by have c:=zuJ a b c d e f g h i j l m n o p q;grind),(by have c:=zuk a b c d e f g h i j l m n o p q;grind),(by have c:=zsK a b c d e f g h i j l m n o p q;grind),(by have c:=zsa a b c d e f g h i j l m n o p q;grind)⟩,⟨(by have c:=ztc a b c d e f g h i j l m n o p q;grind),(by have c:=zuB a b c d e f g h i j l m n o p q;grind),(by have c:=zub a b c d e f g h i j l m n o p q;grind),(by have c:=zth a b c d e f g h i j l m n o p q;grind)⟩,⟨(by have c:=ztR a b c d e f g h i j l m n o p q;grind),(by have c:=zse a b c d e f g h i j l m n o p q;grind),(by have c:=zsl a b c d e f g h i j l m n o p q;grind),(by have c:=zur a b c d e f g h i j l m n o p q;grind)⟩,⟨(by have c:=zuv a b c d e f g h i j l m n o p q;grind),(by have c:=zsJ a b c d e f g h i j l m n o p q;grind),(by have c:=zsm a b c d e f g h i j l m n o p q;grind),(by have c:=ztk a b c d e f g h i j l m n o p q;grind)⟩⟩
abbrev Sz(n:Nat):k!:=n=2\/n=3\/n=4
theorem zek(ha:iw!)(hb:ff! B):ff! (kr A B):=by
 refine⟨by simp[kr,ym,hb.len],cO! ?_⟩;obtain⟨j,_,rfl⟩:=ke!;simp[(show v! (ym B)=n from by simp[ym,hb.len])]
theorem z1x(ha:iw!):ff! (gP! A):=by
 refine⟨by simp[back,ha.len],cO! ?_⟩;obtain⟨j,_,rfl⟩:=ke!;simp[ha.len]
theorem zaI(n:Nat):ff! b0!:=by
 refine⟨by simp[one],cO! ?_⟩;obtain⟨j,_,rfl⟩:=ke!;simp
def z0P(A:Tb):k!:=eF! A=1\/eF! A=-1
theorem z0P.sq(h:z0P A):eF! A*eF! A=1:=by rcases h with h | h<;>rw[h]<;>decide
theorem z7H(hn:ba!)(ha:iw!)(hf:z0P A):kr (gP! A) A=b0!/\kr A (gP! A)=b0!:=by
 have sq:=hf.sq;rcases hn with rfl | rfl | rfl
 ·obtain⟨a,b,c,d,rfl⟩:=z9t ha;rw[zd6]at sq;rw[zs9];exact bm2 a b c d _ rfl sq
 ·obtain⟨a1,a2,a3,a4,a5,a6,a7,a8,a9,rfl⟩:=zaf ha;rw[zb7 1]at sq;rw[zt4];exact bm3 _ _ _ _ _ _ _ _ _ _ rfl sq
 ·obtain⟨a1,a2,a3,a4,a5,a6,a7,a8,a9,a10,a11,a12,ec,ed,ee,fN,rfl⟩:=z9V ha;rw[zcs 0]at sq;rw[zsv];exact bm4 _ _ _ _ _ _ _ _ _ _ _ _ _ _ _ _ _ rfl sq
theorem zig(hn:ba!)(ha:iw!)(hb:ff! B)(hf:z0P A)(hg:z0P B):z0P (kr A B):=by
 unfold z0P;rw[(zeI hn ha hb)];rcases hf with e | e<;>rcases hg with f | f<;>rw[e,f]<;>decide
theorem znj(hn:ba!)(ha:iw!)(hf:z0P A)(hv:J!=n):mv (gP! A) (mv A v)=v:=by rw[<- zmK hn (z1x ha) ha hv,(z7H hn ha hf).1,zlC hn hv]
def Bd(m:Nat)(T:Tb):k!:=∀r∈T,∀x∈r,c7! m
theorem zhf{a b:Int} (ha:a.natAbs<2 ^ m)(hb:b.natAbs<2 ^ k):bE! (a*b)<2 ^ (m+k):=by
 rw[_aA,_bU];exact _cd ha hb
theorem znC: ∀{xs:List Int},(∀x∈xs,c7! m)->w!<=4->xs.sum.natAbs<2 ^ (m+2):=by
 intro xs h hl;cases xs with
 | nil=>exact _cq _ | cons x xs=>
  have h1:=h x (by simp);have h2:=(show ∀ys:List Int,(∀x∈ys,c7! m)->ys.sum.natAbs<=c9!*2 ^ m from by
  intro ys;induction ys with
  | nil=>simp | cons y ys ih=>
   intro h;have h1:=h y (by simp);have h2:=ih (ah! (h x (by simp[hx])));simp only[_aD,_i,Nat.add_mul];omega) xs (cs! (h y (by simp[hy])));simp only[_i]at hl;have h4:w!*2 ^ m<=3*2 ^ m:=_aB _ (by omega);simp only[_aD,_bU];omega
theorem zero_lt_two(m:Nat):bE! (j! 0)<2 ^ m:=_cq _
theorem z6v{r:h!}(hr:∀x∈r,c7! m)(j:Nat):bE! (cT! j)<2 ^ m:=by
 by_cases h:j<aE!
 ·rw[List.getD,_b h];exact hr _ (_O _)
 ·rw[List.getD,_K (by omega)];exact zero_lt_two m
theorem zmN(h:Bd m T):Bd m (ym T):=λr hr x hx=>by
 obtain⟨j,_,rfl⟩:=ke!;obtain⟨q,hq,rfl⟩:=ho!;exact z6v (h q hq) j
theorem z4f(h:Bd m T)(i j:Nat):Bd m (e8! i j):=λr hr x hx=>by
 obtain⟨q,hq,rfl⟩:=ke!;exact h q (mR! hq _S _aC) x (mR! hx _S _aC)
theorem z61(hi:i<aZ!):v! (e8! i j)=aZ!-1:=by simp[z1N];omega
theorem zhi(i j:Nat):bE! (sg i j)=1:=by unfold sg;split<;>rfl
theorem zeC: ∀(k:Nat) (T:Tb),Bd m T->1<=aZ!->aZ!<=4->bE! (det k T)<2 ^ (aZ!*m+2*aZ!)
 | 0,T,_,_,_=>zero_lt_two _ | k+1,T,h,h1,h4=>by
  rw[det];split
  ·rename_i e;rw[e];exact _j (z6v (by
    rw[List.getD,_b (by omega)];exact h _ (_O _)) 0) (_A (by decide) (by omega))
  ·rw[(show aZ!*m+2*aZ!=(aZ!*m+2*aZ!-2)+2 from by omega)];refine znC (ah! ?_) (by simp;exact h4);obtain⟨j,hj,rfl⟩:=ho!;have hw:=z61 (T:=T) (i:=0) (j:=j) (by omega);have b2:=zeC k (e8! 0 j) (z4f h 0 j) (by omega) (by omega);rw[hw]at b2;rw[_aA,_aA,zhi,Nat.one_mul];have b3:=_cd (show bE! (bd! (jG! 0) j)<2 ^ m from by
    refine z6v ?_ j;rw[List.getD,_b (by omega)];exact h _ (_O _)) b2;rw[<- _bU]at b3;refine _j b3 (_A (by decide) ?_);have:(aZ!-1)*m=aZ!*m-m:=by rw[Nat.sub_mul];omega
   have h5 := Nat.le_mul_of_pos_left m h1;omega
theorem zmY(h:Bd m A)(h1:2<=qX!)(h4:qX!<=4)(hf:z0P A):Bd (3*m+6) (gP! A):=λr hr x hx=>by
 obtain⟨i,hi,rfl⟩:=ke!;obtain⟨j,hj,rfl⟩:=ho!;have hw:=z61 (j:=i) (by simpa using hj);rw[_aA,_aA,zhi,(show mI! A=1 from by rcases hf with e | e<;>rw[e]<;>rfl),Nat.one_mul];refine _j (zeC 4 (z1N A j i) (z4f h j i) (by omega) (by omega)) (_A (by decide) ?_);rw[hw];have:(qX!-1)*m<=3*m:=_aB _ (by omega);omega
theorem Tab.le(h:g5!)(hn:ba!):∀r∈T,aE!<=4:=cO! (by rw[jt! r hr];omega)
open L2 (maxL minL maxL_ge maxL_mem minL_le minL_mem)
inductive Rl where | nx | le | al | tu deriving DecidableEq
structure Lot(n:Nat)(v:h!):k! where
 sz:ba!
 len:J!=n
 nn:∀x∈v,0<=x
 pos:∃x∈v,0<x
noncomputable def nz(v:h!):h!:=v.filter λx=>ci! x 0
noncomputable def ended(v:h!):Bool:=a5! (hr! v=1)
noncomputable def gp(v:h!):Nat:=qY! ip!
noncomputable def others(v:h!):h!:=v.take a9!++[0]++v.drop (a9!+1)
noncomputable def lp(v:h!):Nat:=qY! (i0! v)
noncomputable def vd(v:h!)(p:Nat):jD!:=lj! pP! (λi=>ci! i p)
def deal:Rl->h!->Nat×jD!
 | .nx,v=>((c2!).idxOf hp!,[a9!]) | .le,v=>(lp c2!,[a9!]) | .al,v=>(dq!,vd v dq!) | .tu,v=>(0,aj! fQ! 0 [] (vd v 0))
noncomputable def yX(v:h!)(d:Nat×jD!):h!:=aP! J! (λi=>al! (i∈d.2) (b1! / bt! d.1) 0)
def rot{α:b4!}(xs:eX!):eX!:=li! 1++nb! 1
noncomputable def mvd(r:Rl)(xs:eX!):eX!:=aj! r .tu (rot xs) xs
noncomputable def left(v qs:h!)(b:Nat):h!:=ot! (λx q=>x-q*fO!) v qs
noncomputable def stp(r:Rl)(v:h!):h!:=ha! (cG! dm! aI!)
noncomputable def xq(b:Nat)(line:h!)(q:Int):h!:=line.take b++[line.getD b 0+q]++line.drop (b+1)
noncomputable def z7Z(r:Rl)(b:Nat)(qs:h!):Tb:=pQ! (ha! (xq b line q)) pT! qs
noncomputable def kA(r:Rl)(v:h!):Tb:=z7Z r aI! dm!
@[simp] theorem znx:dot [] []=0:=U!
@[simp] theorem dot_cons(a b:Int) (r v:h!):dot (a::r) (b::v)=a*b+eq! r:=rfl
theorem qX:∀{r c r' c':List Int},aE!=c.length->dot (r++r') (c++c')=dot r c+dot r' c'
 | [],[],_,_,_=>by simp | a::r,b::c,r',c',h=>by
  simp only[_bf,dot_cons,(qX (r':=r') (c':=c') (by simpa using h))];lia | [],_::_,_,_,h=>by simp at h | _::_,[],_,_,h=>by simp at h
noncomputable def zix(z:Int)(c q:h!):h!:=ot! (λx q=>x-q*z) c q
theorem zdc(z:Int):∀{r c q:List Int},aE!=c.length->c.length=q.length->dot r (zix z c q)=dot r c-dot r q*z
 | [],[],[],_,_=>by simp[zix] | a::r,b::c,p::q,h1,h2=>by
  have:=zdc z (by simpa using h1) (by simpa using h2);simp only[zix]at this;simp only[zix,_at,dot_cons,this];grind | [],_::_,_,h,_=>by simp at h | _::_,[],_,h,_=>by simp at h | _,[],_::_,_,h=>by simp at h | _,_::_,[],_,h=>by simp at h
theorem zeG:∀{r c:List Int},(∀x∈r,0<=x)->(∀x∈c,0<=x)->0<=dot r c
 | [],[],_,_=>by simp | [],_::_,_,_=>by simp[dot] | _::_,[],_,_=>by simp[dot] | a::r,b::c,h1,h2=>by
  have i:=zeG (r:=r) (c:=c) (ah! (h1 x (by simp[hx]))) (ah! (h2 x (by simp[hx])));have j:=_bh (h1 a (by simp)) (h2 b (by simp));simp only[dot_cons];lia
theorem zo1(h:aE!=c.length):dot (rot r) (rot c)=dot r c:=by match r,c,h with
 | [],[],_=>rfl | a::r,b::c,h=>
  show dot (r++[a]) (c++[b])=_;rw[qX (by simpa using h)];simp only[dot_cons,znx];lia | [],_::_,h=>simp at h | _::_,[],h=>simp at h
theorem zoR(l:Rl)(h:aE!=c.length):dot (mvd l r) (mvd l c)=dot r c:=by
 unfold mvd;split;·exact zo1 h
 ·rfl
theorem zib{xs:eX!}:x∈rot xs ↔ x∈xs:=by cases xs with
 | nil=>simp[rot] | cons a xs=>simp[rot,or_comm]
theorem z3Z{xs:eX!} : x∈mvd l xs ↔ x∈xs:=by
 unfold mvd;split;·exact zib
 ·rfl
theorem zmW(xs:eX!):v! (rot xs)=w!:=by cases xs<;>simp[rot]
theorem zaN(xs:eX!):v! (mvd l xs)=w!:=by
 unfold mvd;split;·exact zmW xs
 ·rfl
structure Qs(v:h!)(b:Nat)(qs:h!):k! where
 lt:b<J!
 len:jY!=J!
 zero:G! qs b 0
 nn:∀q∈qs,0<=q
 fit:∀i,0<=b1!-qs.getD i 0*fO!
 pos:(∀q∈qs,q=0)\/0<fO!
theorem z60{α:b4!}{v:eX!} (h:b<J!):∃v1 z v2,v=v1++z::v2/\ov!=b:= ⟨v.take b,v[b],v.drop (b+1),by rw[<- _bE h,_b5],by simp;lia⟩
noncomputable def zaQ(b:Nat)(qs r:h!):h!:=r.set b (cT! b+dot r qs)
theorem getD_at{α:b4!}{v1 v2:eX!}{z d:α} (h:ov!=b):(v1++z::v2).getD b d=z:=by
 subst h;simp[List.getD]
theorem Qs.split{v qs r:h!} (h:Qs v b qs)(hr:aE!=J!):∃v1 z v2 q1 q2 r1 y r2,v=v1++z::v2/\qs=q1++0::q2/\r=r1++y::r2/\ov!=b/\q1.length=b/\r1.length=b/\q2.length=v2.length/\r2.length=v2.length:=by
 obtain⟨v1,z,v2,rfl,e1⟩:=z60 h.lt;obtain⟨q1,p,q2,rfl,e2⟩:=z60 (by rw[h.len];exact h.lt);obtain⟨r1,y,r2,rfl,e3⟩:=z60 (by rw[hr];exact h.lt);have hz:=h.zero;rw[<- e2]at hz;simp at hz;subst hz;have l1:=h.len;simp at l1 hr;exact⟨v1,z,v2,q1,q2,r1,y,r2,rfl,rfl,rfl,e1,e2,e3,by lia,by lia⟩
theorem z9b(h1:ov!=b) (h2:q1.length=b):left (v1++z::v2) (q1++0::q2) b=zix z v1 q1++z::zix z v2 q2:=by
 unfold left zix;rw[getD_at h1,List.zipWith_append (by lia)];simp
theorem zmQ(h:Qs v b qs)(hr:aE!=J!):dot (zaQ b qs r) (cG! qs b)=eq! r:=by
 obtain⟨v1,z,v2,q1,q2,r1,y,r2,rfl,rfl,rfl,e1,e2,e3,e4,e5⟩:=h.split hr;rw[z9b e1 e2];unfold zaQ;rw[<- e3,List.set_append_right _ _ (by lia)];simp only[_dG,_B];rw[qX (by simp[zix];lia),qX (by lia),qX (by lia)];simp only[dot_cons];rw[zdc z (by lia) (by lia),zdc z (by lia) (by lia)];grind
theorem uU(h:jY!=J!):v! (cG! qs b)=J!:=by simp[left,h]
theorem zhv(h:Qs v b qs):∀x∈cG! qs b,0<=x:=ah! (by
 obtain⟨i,hi,e⟩:=p3!;have:=h.fit i;have hl:=uU (b:=b) h.len;have h1:fp!:=by lia
 simp only[List.getD,_b h1,_b (by rw[h.len];exact h1),_aE]at this;rw[<- e];simpa[left,List.getD] using this)
structure zuW(B:Int)(r c:h!)(x:Int):k! where
 len:aE!=c.length
 nn:∀y∈r,0<=y/\y<=B
 dot:dot r c=x
theorem zkQ(l:Rl) (h:Qs v b qs) (hx:x<=B) (I:zuW B r v x):zuW B (mvd l (zaQ b qs r)) (mvd l (cG! qs b)) x:=by
 have hd:=zmQ h lm!;have rl:v! (zaQ b qs r)=aE!:=by simp[zaQ]
 have ll:=uU (b:=b) h.len;refine⟨by rw[zaN,zaN,rl,ll,I.len],cs! ?_,by rw[zoR l (by rw[rl,ll,I.len]),hd,I.dot]⟩;rw[z3Z]at hy;have ln:=zhv h;obtain⟨v1,z,v2,q1,q2,r1,u,r2,rfl,rfl,rfl,e1,e2,e3,e4,e5⟩:=h.split lm!;rw[z9b e1 e2]at hd ln;unfold zaQ at hy hd;rw[(show (r1++u::r2).set b (bd! (r1++u::r2) b+px! (r1++u::r2) (q1++0::q2))=r1++(u+px! (r1++u::r2) (q1++0::q2))::r2 from by
  rw[getD_at e3,<- e3,List.set_append_right _ _ (by lia)];simp only[_dG,_B])]at hy hd;have dq := zeG (ah! (I.nn x hx).1) fX!;have hu:=I.nn u (by simp);rcases l9! hy with hy | hy;·exact I.nn y (by simp[hy])
 ·rcases dE! hy with rfl | hy
  ·rcases h.pos with h0 | h0
   ·have dz:px! (r1++u::r2) (q1++0::q2)=0:=(show ∀(r q:List Int),(∀x∈q,x=0)->px! r q=0 from by
      intro r;induction r with
      | nil=>intro q _;cases q<;>simp[Pm.dot] | cons a r ih=>
       intro q hq;cases q with
       | nil=>simp[Pm.dot] | cons p q=>rw[dot_cons,ih q (ah! (hq x (by simp[hx]))),hq p (by simp)];simp) _ _ h0;lia
   ·rw[getD_at e1]at h0;rw[qX (by simp[zix];lia),dot_cons]at hd;have n1:0<=px! r1 (zix z v1 q1):=zeG (ah! (I.nn x (by simp[hx])).1) (ah! (ln x (by simp[hx])));have n2:0<=px! r2 (zix z v2 q2):=zeG (ah! (I.nn x (by simp[hx])).1) (ah! (ln x (by simp[hx])));have dt:=I.dot;generalize px! (r1++u::r2) (q1++0::q2)=dd at *;have m1:(u+dd)*1<=(u+dd)*z:=_ck (by lia) (by lia);lia
  ·exact I.nn y (by simp[hy])
theorem zaZ(xs:eX!):mvd .tu xs=rot xs:=by rfl
theorem z90(h:r≠.tu)(xs:eX!):ha! xs=xs:=by simp[mvd,h]
theorem zjI(P:Tb->k!)(r:Rl)(hn:ba!)(hq:jY!=n)(hb:b<n)(hz:G! qs b 0) (oz:∀q,P [[1,0],[q,1]])(oA:∀q,P [[1,q],[0,1]]) (iQ:∀p q,P [[1,0,0],[p,1,0],[q,0,1]])(oB:∀p q,P [[1,p,0],[0,1,0],[0,q,1]])(oC:∀p q,P [[1,0,p],[0,1,q],[0,0,1]]) (oE:∀p q s,P [[1,0,0,0],[p,1,0,0],[q,0,1,0],[s,0,0,1]])(oF:∀p q s,P [[1,p,0,0],[0,1,0,0],[0,q,1,0],[0,s,0,1]]) (oG:∀p q s,P [[1,0,p,0],[0,1,q,0],[0,0,1,0],[0,0,s,1]])(oH:∀p q s,P [[1,0,0,p],[0,1,0,q],[0,0,1,s],[0,0,0,1]]) (t:∀T,g5!->P T->P (ou! rot)):P (z7Z r b qs):=by
 have main:P (pQ! (xq b line q) pT! qs):=by
  rcases hn with rfl | rfl | rfl
  ·obtain⟨x,y,rfl⟩:=z9F hq;match b,hb with
   | 0,_=>simp at hz;subst hz;simpa[one,xq,List.range,List.range.loop] using oz y | 1,_=>simp at hz;subst hz;simpa[one,xq,List.range,List.range.loop] using oA x
  ·obtain⟨x,y,z,rfl⟩:=z88 hq;match b,hb with
   | 0,_=>simp at hz;subst hz;simpa[one,xq,List.range,List.range.loop] using iQ y z | 1,_=>simp at hz;subst hz;simpa[one,xq,List.range,List.range.loop] using oB x z | 2,_=>simp at hz;subst hz;simpa[one,xq,List.range,List.range.loop] using oC x y
  ·obtain⟨x,y,z,w,rfl⟩:=z6Q hq;match b,hb with
   | 0,_=>simp at hz;subst hz;simpa[one,xq,List.range,List.range.loop] using oE y z w | 1,_=>simp at hz;subst hz;simpa[one,xq,List.range,List.range.loop] using oF x z w | 2,_=>simp at hz;subst hz;simpa[one,xq,List.range,List.range.loop] using oG x y w | 3,_=>simp at hz;subst hz;simpa[one,xq,List.range,List.range.loop] using oH x y z
 by_cases hr:r=.tu
 ·subst hr;have:z7Z .tu b qs=(pQ! (xq b line q) pT! qs).map rot:=by
   unfold z7Z;rw[_bi];rfl
  rw[this];exact t _ (by
  refine⟨by simp[one,hq],λl hl=>?_⟩;obtain⟨i,hi,rfl⟩:=gM! hl;simp at hi;simp[xq,one];lia) main
 ·rw[(show z7Z r b qs=pQ! (xq b line q) pT! qs from by
   unfold z7Z;simp only[z90 hr])];exact main
theorem zle(r:Rl)(hn:ba!)(hq:jY!=n)(hb:b<n):ff! (z7Z r b qs):=by
 refine⟨by simp[z7Z,one,hq],λl hl=>?_⟩;obtain⟨i,hi,rfl⟩:=gM! hl;simp[z7Z,zaN,xq,one];lia
theorem zlc(hn:ba!)(h:g5!)(hf:z0P T):z0P (ou! rot):=by
 unfold z0P at hf ⊢;rcases hn with rfl | rfl | rfl
 ·obtain⟨a,b,c,d,rfl⟩:=z9t h;simp only[_p,_dF,rot,List.drop_one,List.tail_cons,_cs,List.take_zero,_bf,_ar];rw[zd6]at hf ⊢;simp only[d2]at hf ⊢;grind
 ·obtain⟨a,b,c,d,e,f,g,i,j,rfl⟩:=zaf h;simp only[_p,_dF,rot,List.drop_one,List.tail_cons,_cs,List.take_zero,_bf,_ar];rw[zb7 1]at hf ⊢;simp only[d3,d2]at hf ⊢;grind
 ·obtain⟨a,b,c,d,e,f,g,i,j,k,l,m,n,o,p,q,rfl⟩:=z9V h;simp only[_p,_dF,rot,List.drop_one,List.tail_cons,_cs,List.take_zero,_bf,_ar];rw[zcs 0]at hf ⊢;have e1:d4 b c d a f g i e k l m j o p q n=- d4 a b c d e f g i j k l m n o p q:=by simp only[d4,d3,d2];grind
  lia
theorem zi3(r:Rl)(hn:ba!)(hq:jY!=n)(hb:b<n)(hz:G! qs b 0):z0P (z7Z r b qs):=by
 refine zjI z0P r hn hq hb hz ?_ ?_ ?_ ?_ ?_ ?_ ?_ ?_ ?_ λT hT hf=>zlc hn hT hf;·intro q;unfold z0P;rw[zd6];simp[d2]
 ·intro q;unfold z0P;rw[zd6];simp[d2]
 ·intro p q;unfold z0P;rw[zb7 1];simp[d3,d2]
 ·intro p q;unfold z0P;rw[zb7 1];simp[d3,d2]
 ·intro p q;unfold z0P;rw[zb7 1];simp[d3,d2]
 ·intro p q s;unfold z0P;rw[zcs 0];simp[d4,d3,d2]
 ·intro p q s;unfold z0P;rw[zcs 0];simp[d4,d3,d2]
 ·intro p q s;unfold z0P;rw[zcs 0];simp[d4,d3,d2]
 ·intro p q s;unfold z0P;rw[zcs 0];simp[d4,d3,d2]
noncomputable def z67(T:Tb)(r:h!):h!:=(ym T).map (dot r)
theorem z2D(hn:ba!)(ha:iw!)(ht:g5!):kr A T=A.map (z67 T):=by
 rcases hn with rfl | rfl | rfl
 ·obtain⟨a,b,c,d,rfl⟩:=z9t ha;obtain⟨e,f,g,h,rfl⟩:=z9t ht;rfl
 ·obtain⟨a1,a2,a3,a4,a5,a6,a7,a8,a9,rfl⟩:=zaf ha;obtain⟨b1,b2,b3,b4,b5,b6,b7,b8,b9,rfl⟩:=zaf ht;rfl
 ·obtain⟨a1,a2,a3,a4,a5,a6,a7,a8,a9,a10,a11,a12,ec,ed,ee,fN,rfl⟩:=z9V ha;obtain⟨b1,b2,b3,b4,b5,b6,b7,b8,b9,iI,iJ,iK,iM,iN,iO,iP,rfl⟩:=z9V ht;rfl
theorem zkG(hn:ba!)(h:g5!):z67 (ou! rot) r=rot (z67 T r):=by
 rcases hn with rfl | rfl | rfl
 ·obtain⟨a,b,c,d,rfl⟩:=z9t h;rfl
 ·obtain⟨a,b,c,d,e,f,g,i,j,rfl⟩:=zaf h;rfl
 ·obtain⟨a,b,c,d,e,f,g,i,j,k,l,m,n,o,p,q,rfl⟩:=z9V h;rfl
theorem zj6(r:Rl)(hn:ba!)(hq:jY!=n)(hb:b<n)(hz:G! qs b 0)(hr:row.length=n):z67 (z7Z r b qs) row=ha! (zaQ b qs row):=by
 have main:z67 (pQ! (xq b line q) pT! qs) row=zaQ b qs row:=by
  rcases hn with rfl | rfl | rfl
  ·obtain⟨x,y,rfl⟩:=z9F hq;obtain⟨x',y',rfl⟩:=z9F hr;match b,hb with
   | 0,_=>simp at hz;subst hz;simp[one,xq,List.range,List.range.loop,z67,ym,zaQ,dot] | 1,_=>simp at hz;subst hz;simp[one,xq,List.range,List.range.loop,z67,ym,zaQ,dot];try lia
  ·obtain⟨x,y,z,rfl⟩:=z88 hq;obtain⟨x',y',z',rfl⟩:=z88 hr;match b,hb with
   | 0,_=>simp at hz;subst hz;simp[one,xq,List.range,List.range.loop,z67,ym,zaQ,dot]<;>try lia | 1,_=>simp at hz;subst hz;simp[one,xq,List.range,List.range.loop,z67,ym,zaQ,dot]<;>try lia | 2,_=>simp at hz;subst hz;simp[one,xq,List.range,List.range.loop,z67,ym,zaQ,dot]<;>try lia
  ·obtain⟨x,y,z,w,rfl⟩:=z6Q hq;obtain⟨x',y',z',w',rfl⟩:=z6Q hr;match b,hb with
   | 0,_=>simp at hz;subst hz;simp[one,xq,List.range,List.range.loop,z67,ym,zaQ,dot]<;>try lia | 1,_=>simp at hz;subst hz;simp[one,xq,List.range,List.range.loop,z67,ym,zaQ,dot]<;>try lia | 2,_=>simp at hz;subst hz;simp[one,xq,List.range,List.range.loop,z67,ym,zaQ,dot]<;>try lia | 3,_=>simp at hz;subst hz;simp[one,xq,List.range,List.range.loop,z67,ym,zaQ,dot]<;>try lia
 by_cases h:r=.tu
 ·subst h;have e:z7Z .tu b qs=(pQ! (xq b line q) pT! qs).map rot:=by
   unfold z7Z;rw[_bi];rfl
  rw[e,zkG hn (by
  refine⟨by simp[one,hq],λl hl=>?_⟩;obtain⟨i,hi,rfl⟩:=gM! hl;simp at hi;simp[xq,one];lia),main,zaZ]
 ·rw[(show z7Z r b qs=pQ! (xq b line q) pT! qs from by
   unfold z7Z;simp only[z90 h]),main,z90 h]
theorem qF: x∈nz v ↔ x∈v/\x≠0:=by simp[nz]
theorem getD_mem{v:h!} (h:fp!):b1!∈v:=by simp[_b h]
theorem uz{v:h!}(h:∀x∈v,0<=x)(i:Nat):0<=b1!:=by
 by_cases hi:fp!;·exact h _ (hj! hi)
 ·simp[_K (qZ! hi)]
theorem zbR{v:h!} (h:x∈v):qY! x<J!/\bt! (qY! x)=x:=by
 have hl:=List.idxOf_lt_length_of_mem h;exact⟨hl,by simp[_b hl,_cI hl]⟩
theorem Lot.ne(h:aH!):a1! v:=λz=>by
 obtain⟨x,hx,_⟩:=h.pos;rw[z]at hx;simp at hx
theorem Lot.nzne(h:aH!):nz v≠[]:=λz=>by
 obtain⟨x,hx,h0⟩:=h.pos;have := q0! ⟨hx,by lia⟩;rw[z]at this;simp at this
theorem zdr(h:nz v≠[]):dq!<J!/\bt! dq!=i0! v/\i0! v≠0:=by
 have m:=r5! h;have:=zbR m.1;exact aN! (jq!).1 (jq!).2 m.2
theorem zds(h:a1! v):a9!<J!/\bt! a9!=ip!:=zbR (kG! h)
theorem others_eq(h:a1! v):c2!=v.set a9! 0:=by
 unfold others;rw[_bW,_h ((zds h).1)];simp
theorem uM(h:a1! v)(i:Nat):bd! c2! i=aj! i a9! 0 b1!:=by
 rw[others_eq h];by_cases e:i=a9!
 ·subst e;simp[((zds h).1)]
 ·simp[e,_ac (_bN e)]
theorem wQ(h:a1! v):v! c2!=J!:=by rw[others_eq h];simp
theorem zie:∀{v:List Int}{p:Nat},hr! v≠1->bt! p≠0->∃j,j≠p/\j<J!/\bt! j≠0:=by
 intro v p he hp;apply _Y;intro hn;apply he;obtain⟨v1,z,v2,rfl,e1⟩:=z60 (show p<J! from by
  apply _Y;exact λz=>hp (by simp[_K (qZ! z)]));rw[getD_at e1]at hp;have g2:v2.filter (λx=>ci! x 0)=[]:=_bm.mpr (ah! (by simp[(ah! (by
  obtain⟨j,hj,rfl⟩:=p3!;apply _Y;refine λz0=>hn ⟨ov!+1+j,by lia,by simp;lia,?_⟩;rw[List.getD,(show G! (v1++z::v2) (ov!+1+j) (v2[j]) from by rw[_bw (by lia),show ov!+1+j-ov!=j+1 by lia,_d,_b hj])];simpa using z0):∀x∈v2,x=0) x hx]))
 simp only[nz,List.filter_append,_aw,(_bm.mpr (ah! (by simp[(ah! (by
  obtain⟨j,hj,rfl⟩:=p3!;apply _Y;intro z0;exact hn ⟨j,by lia,by simp;lia,by simpa[_F hj,_b hj] using z0⟩):∀x∈v1,x=0) x hx])):v1.filter (λx=>ci! x 0)=[]),g2];simp[hp]
theorem z9s(he:es!):hr! v≠1:=by simpa[ended] using he
structure Dl(v:h!)(b:Nat)(dv:jD!):k! where
 lt:b<J!
 nb:b∉dv
 pos:dv=[]\/0<fO!
theorem uF: i∈vd v p ↔ fp!/\i≠p:=by simp[vd]
theorem zgD(h:aH!) (hb:b<J!)(h0:bd! c2! b≠0):Dl v b [a9!]/\0<fO!/\fO!<=bt! a9!:=by
 rw[uM eQ!]at h0;have p0:0<fO!:=by have:=uz fX! b;lia
 refine aN! ⟨hb,by simpa using (λe=>by rw[_h e]at h0;exact h0 rfl),T! p0⟩ p0 ?_;rw[(zds eQ!).2];exact oh! _ (hj! hb)
theorem kJ(h:aH!)(he:es!):nz c2!≠[]:=by
 have mx:0<ip!:=by
  obtain⟨x,hx,h0⟩:=h.pos;have:=oh! x hx;lia
 obtain⟨j,h1,h2,h3⟩:=zie (z9s he) (by rw[(zds eQ!).2];lia);intro z;have := q0! ⟨by
  have:=hj! (by rw[wQ eQ!];exact h2);rw[uM eQ!,_o h1]at this;exact this,h3⟩;rw[z]at this;simp at this
theorem qw(r:Rl)(h:aH!)(he:es!):Dl v aI! (mq!).2:=by cases r with
 | nx=>
  have a:=zbR (kG! (λz=>by
   have:=wQ eQ!;rw[z]at this;exact h.ne (_aX.mp this.symm):a1! c2!));refine (zgD h (by rw[<- wQ eQ!];exact a.1) ?_).1;show bd! c2! ((c2!).idxOf hp!)≠0;have m:=r5! (kJ h he);have m1:=oh! _ m.1;have m2:0<=i0! c2!:=by
   obtain⟨i,hi,e⟩:=gM! m.1;have:=uM eQ! i;rw[(show bd! c2! i=i0! c2! from by simp[_b hi,e])]at this;rw[this];split;·lia
   ·exact uz fX! i
  lia | le=>
  have a:=zdr (kJ h he);refine (zgD h (by rw[<- wQ eQ!];exact a.1) ?_).1;show bd! c2! (lp c2!)≠0;rw[a.2.1];exact a.2.2 | al=>
  have a:=zdr q1!;refine⟨a.1,by simp[deal,uF],T! ?_⟩;show 0<bt! dq!;have:=uz fX! dq!;lia | tu=>
  refine aN! (show 0<J! from by have:=h.sz;rw[h.len];lia) ?_ ?_
  ·show 0∉(aj! fQ! 0 [] (vd v 0));split<;>simp[uF]
  ·show (aj! fQ! 0 [] (vd v 0))=[]\/0<fQ!;split;·exact c4!
   ·have:=uz fX! 0;exact T! (by lia)
theorem xl(v:h!)(d:Nat×jD!):v! (yX v d)=J!:=by simp[yX]
theorem zfU(v:h!)(d:Nat×jD!)(i:Nat):bd! (yX v d) i=al! (fp!/\i∈d.2) (b1! / bt! d.1) 0:=by
 unfold yX;by_cases hi:fp!;·simp[hi]
 ·simp[hi]
theorem jy(i:Nat):b1!-bd! (yX v d) i*bt! d.1=al! (fp!/\i∈d.2) (b1! % bt! d.1) b1!:=by
 rw[zfU];split
 ·have:=_a5 b1! (bt! d.1);have e:=_b4 (b1! / bt! d.1) (bt! d.1);lia
 ·lia
theorem zfV(hv:∀x∈v,0<=x)(h:Dl v d.1 d.2):Qs v d.1 (yX v d):=by
 refine⟨h.lt,xl _ _,?_,λq hq=>?_,λi=>?_,?_⟩;·simp[yX,h.lt,h.nb]
 ·obtain⟨i,hi,rfl⟩:=gM! hq;simp only[yX,_dr,List.getElem_range];split;·exact _bO (uz hv _) (uz hv _)
  ·lia
 ·rw[jy];split
  ·rename_i hi;rcases h.pos with z | z;·rw[z]at hi;simp at hi
   ·exact _a9 _ (by lia)
  ·exact uz hv i
 ·rcases h.pos with z | z
  ·refine z! (λq hq=>?_);obtain⟨i,hi,rfl⟩:=gM! hq;simp[yX,z]
  ·exact T! z
noncomputable def bl(n:Nat):Nat:=aj! n 0 0 (bl (n / 2)+1)
termination_by n
decreasing_by lia
theorem zd7:bl 0=0:=by rw[bl];rfl
theorem zen(h:n≠0):bl n=bl (n / 2)+1:=by rw[bl,_o h]
theorem zhx:∀(b a:Nat),a<=b->bl a<=bl b:=by
 intro b;induction b using Nat.strongRecOn with | ind b ih=>
  intro a h;by_cases h0:a=0;·subst h0;rw[zd7];lia
  ·rw[zen h0,zen (show b≠0 by lia)];have:=ih (b / 2) (by lia) (a / 2) (by lia);lia
theorem zo0(h:2*a<b):bl a<bl b:=by
 rw[zen (show b≠0 by lia)];have:=zhx (b / 2) a (by lia);lia
theorem zpf:∀(k n:Nat),n<2 ^ k->bl n<=k
 | 0,n,h=>by simp at h;subst h;rw[zd7];lia | k+1,n,h=>by
  by_cases h0:n=0;·subst h0;rw[zd7];lia
  ·rw[zen h0];have:=zpf k (n / 2) (by lia);lia
noncomputable def wt(v:h!):Nat:=(v.map λx=>bl ol!).sum
theorem zpq:∀{u v:List Int},py!=J!->(∀i,bl (u.getD i 0).toNat<=bl (fy! b1!))->wt u<=wt v/\((∃i,bl (u.getD i 0).toNat<bl (fy! b1!))->wt u<wt v)
 | [],[],_,_=>⟨by decide,λ⟨i,h⟩=>by simp at h⟩ | a::u,b::v,hl,h=>by
  have ih:=zpq (by simpa using hl) λi=>by exact h (i+1)
  have h0:bl a.toNat<=bl pm!:=by exact h 0
  simp only[wt,_p,_aD]at ih ⊢;refine⟨by lia,λ⟨i,hi⟩=>?_⟩;cases i with
  | zero=>
   have:bl a.toNat<bl pm!:=by exact hi
   lia | succ i=>
   have:=ih.2 ⟨i,by exact hi⟩;lia
 | [],_::_,h,_=>by cases h | _::_,[],h,_=>by cases h
theorem vW(h:jY!=J!)(i:Nat):bd! (cG! qs b) i=b1!-qs.getD i 0*fO!:=by
 unfold left;by_cases hi:fp!;·simp[List.getElem?_zipWith,_b hi,_b (show i<jY! from by lia)]
 ·simp[List.getElem?_zipWith,_K (qZ! hi),_K (qZ! (show ¬ i<jY! from by lia))]
theorem z9U{u v:h!}(hl:py!=J!)(h:∀i,u.getD i 0=b1!):u=v:=by
 refine _aR hl λi h1 h2=>?_;simpa[_b h1,_b h2] using (h i)
theorem zl4{a b:Int}(h0:0<b)(h:b<=a):2*(a % b)<a:=by
 have h1:=_a5 a b;have h2:=_bn a h0;have h5:b*1<=b*(a / b):=_ck (by
  have:=Int.ediv_le_ediv h0 h;rwa [Int.ediv_self (by lia)]at this) (by lia);lia
theorem zgP{a b:Int}(ha:0<=a)(h0:0<b):a % b<=a:=by
 have h1:=_a5 a b;have h3:0<=b*(a / b):=_bh (by lia) (_bO ha (by lia));lia
theorem zot(hv:∀x∈v,0<=x)(h:Dl v d.1 d.2):wt (cG! (yX v d) d.1)<=wt v/\((∃i,fp!/\i∈d.2/\bt! d.1<=b1!)->wt (cG! (yX v d) d.1)<wt v):=by
 have hl:=xl v d;have key:∀i,bd! (cG! (yX v d) d.1) i=al! (fp!/\i∈d.2) (b1! % bt! d.1) b1!:=λi=>by rw[vW hl,jy]
 have p:∀i,fp!/\i∈d.2->0<bt! d.1:=fb! (by
  rcases h.pos with z | z;·rw[z]at hi;simp at hi
  ·exact z)
 have w:=zpq (uU hl) λi=>by
  rw[key];split
  ·rename_i hi;have:=zgP (uz hv i) (p i hi);exact zhx _ _ (by lia)
  ·exact ak!
 refine⟨w.1,λ⟨i,h1,h2,h3⟩=>w.2 ⟨i,?_⟩⟩;rw[key,bP! h1 h2];have h0:=p i ⟨h1,h2⟩;have:=zl4 h0 h3;exact zo0 (by lia)
theorem zmi(v:h!):wt (rot v)=wt v:=by cases v with
 | nil=>rfl | cons a v=>simp[rot,wt];lia
theorem zfH(h:∀x,x∈a ↔ x∈b)(ha:a1! a):jX! a=jX! b:=by
 have h1:=minL_le _ ((h _).mp (rJ! ha));have h2:=minL_le _ ((h _).mpr (rJ! (λz=>by
  have:=(h _).mp (rJ! ha);rw[z]at this;cases this)));lia
theorem zq7(h:nz v≠[])(h0:fQ!≠i0! v):lp (rot v)<dq!:=by cases v with
 | nil=>exact cN! h (by decide) | cons a t=>
  have m:=(r5! h).1;have ha:a≠i0! (a::t):=by exact h0
  unfold lp;rw[((zfH (λx=>by rw[qF,qF,zib]) h).symm)];generalize i0! (a::t)=m' at *;show List.idxOf m' (t++[a])<_;rw[List.idxOf_append,_h ((dE! m).resolve_left λz=>ha jn!),List.idxOf_cons,show (a==m')=t! from by simpa using ha];simp
noncomputable def mu(r:Rl)(v:h!):Nat:=5*wt v+(aj! r .tu dq! 0)
theorem Lot.step{n:Nat}{v:h!}(r:Rl)(h:aH!)(he:es!):Lot n dA!:=by
 have dl:=qw r h he;have q:=zfV fX! dl;refine⟨ju!,by rw[stp,zaN,uU mk!,h.len],ah! (zhv q x (z3Z.mp hx)),?_⟩;have fin:∀x∈cG! dm! aI!,0<x->∃x∈dA!,0<x:=λx hx h0=>⟨x,z3Z.mpr hx,h0⟩;rcases dl.pos with z | z
 ·obtain⟨x,hx,h0⟩:=h.pos;refine fin x ?_ h0;rw[(z9U (uU mk!) λi=>by rw[vW mk!,jy,z];simp)];exact hx
 ·refine fin (bt! aI!) ?_ z;rw[<- (show bd! (cG! dm! aI!) aI!=bt! aI! from by rw[vW mk!,jy,_o (λw=>dl.nb w.2)])];exact hj! (by rw[uU mk!];exact dl.lt)
theorem zpc(h:aH!):dq!<4:=by
 have:=(zdr q1!).1;have:=h.len;have:=h.sz;lia
theorem zss(r:Rl)(h:aH!)(he:es!):mu r dA!<mu r v:=by
 have dl:=qw r h he;have w:=zot fX! dl;have mn:∀j,j<J!->bt! j≠0->i0! v<=bt! j:=λj hj h0=>minL_le _ (q0! ⟨hj! hj,h0⟩);cases r with
 | nx=>
  have g:=zds eQ!;have:wt (pU! .nx)<wt v:=by
   refine w.2 ⟨a9!,g.1,by simp[deal],?_⟩;rw[g.2];exact oh! _ (hj! q2!)
  simp only[mu];rw[_o (by decide)];lia | le=>
  have g:=zds eQ!;have:wt (pU! .le)<wt v:=by
   refine w.2 ⟨a9!,g.1,by simp[deal],?_⟩;rw[g.2];exact oh! _ (hj! q2!)
  simp only[mu];rw[_o (by decide)];lia | al=>
  have l:=zdr q1!;obtain⟨j,h1,h2,h3⟩:=zie (z9s he) (by rw[l.2.1];exact l.2.2);have:wt (pU! .al)<wt v:=by
   refine w.2 ⟨j,h2,by simp[deal,uF,h1,h2],?_⟩;show bt! dq!<=_;rw[l.2.1];exact mn j h2 h3
  simp only[mu];rw[_o (by decide)];lia | tu=>
  simp only[mu];rw[_h trivial];have l4:=zpc (h.step .tu he);have same:cG! (yX v (gQ! .tu)) (gQ! .tu).1=v->fQ!≠i0! v->5*wt (pU! .tu)+lp (pU! .tu)<5*wt v+dq!:=λe h0=>by
   have:=zq7 q1! h0;rw[(show pU! .tu=rot v from by rw[stp,zaZ,e]),zmi];lia
  by_cases z:fQ!=0
  ·refine same (z9U (uU (xl _ _)) λi=>?_) λq=>((zdr q1!).2.2 (by rw[<- q,z]))
   ·rw[vW (xl _ _),jy];rw[show (gQ! .tu).2=[] from by show (aj! fQ! 0 [] (vd v 0))=[];rw[_h z]];simp
  ·by_cases ex:∃i,fp!/\i≠0/\fQ!<=b1!
   ·obtain⟨i,h1,h2,h3⟩:=ex;have:wt (pU! .tu)<wt v:=by
     rw[stp,zaZ,zmi];refine w.2 ⟨i,h1,?_,h3⟩;show i∈(aj! fQ! 0 [] (vd v 0));rw[_o z];exact uF.mpr ⟨h1,h2⟩
    lia
   ·refine same (z9U (uU (xl _ _)) λi=>?_) λq=>?_
    ·rw[vW (xl _ _),jy];split
     ·rename_i hi;have:¬ fQ!<=b1!:=λw=>ex ⟨i,hi.1,(by
       have:=hi.2;simp only[deal,_o z,uF]at this;exact (jq!).2),w⟩;show b1! % fQ!=_;exact Int.emod_eq_of_lt (uz fX! i) (by lia)
     ·rfl
    ·obtain⟨j,h1,h2,h3⟩:=zie (z9s he) z;have:=mn j h2 h3;exact ex ⟨j,h2,h1,by lia⟩
inductive Run(r:Rl):h!->f2!->k! | done {v:h!}:nB!=d!->Run r v [v] | step {v:h!}{ls:f2!}:es!->gf! dA!->Run r v (v::ls)
theorem zmo: ∀(k:Nat)(v:List Int),aH!->mu r v<=k->∃ls,gf! v/\pz!<=k+1
 | k,v,h,hk=>by cases he:nB! with
  | true=>exact⟨[v],.done he,by simp⟩ | false=>
   have lt:=zss r h he;match k,hk with
   | 0,hk=>lia | k+1,hk=>
    obtain⟨ls,h1,h2⟩:=zmo (r:=r) k dA! (o8! he) (by lia);exact⟨v::ls,.step he h1,by simp;lia⟩
theorem zqB: ∀{v:List Int},(∀x∈v,ol!<2 ^ m)->wt v<=J!*m
 | [],_=>by simp[wt] | a::v,h=>by
  have ih:=zqB (v:=v) (ah! (h x (by simp[hx])));have:=zpf m a.toNat (h a (by simp));simp only[wt,_p,_aD,_i,Nat.succ_mul]at ih ⊢;lia
theorem zrW(h:aH!)(hb:∀x∈v,ol!<2 ^ m):mu r v<=20*m+3:=by
 have w:=zqB hb;have l:=zpc h;have:J!*m<=4*m:=_aB m (by have:=h.len;have:=h.sz;lia);unfold mu;split<;>lia
noncomputable def cg(a b:Int):Int:=j! (Int.gcd a b)
noncomputable def uk(v:h!):Int:=oY! 0
theorem z5U:∀(v:List Int)(a:Int),0<=a->0<=oY! a/\(oY! a ∣ a/\∀x∈v,oY! a ∣ x)/\∀d,d ∣ a->(∀x∈v,d ∣ x)->d ∣ oY! a
 | [],a,h=>⟨h,⟨Int.dvd_refl _,by simp⟩,λd hd _=>hd⟩ | x::v,a,h=>by
  have ih:=z5U v (cg a x) (by simp[cg]);refine⟨ih.1,⟨_bM ih.2.1.1 (_ds ..),cs! ?_⟩,λd hd hx=>(ih.2.2 d (Int.dvd_coe_gcd hd (hx x (by simp))) (cs! (hx y (by simp[hy]))))⟩
  ·rcases dE! hy with rfl | hy;·exact _bM ih.2.1.1 (_c5 ..)
   ·exact ih.2.1.2 y hy
theorem zad(v:h!):0<=b3!:=(z5U v 0 (by lia)).1
theorem z5W: ∀x∈v,b3! ∣ x:=(z5U v 0 (by lia)).2.1.2
theorem z9W(h:∀x∈v,d ∣ x):d ∣ b3!:=(z5U v 0 (by lia)).2.2 d (_dH d) h
theorem zmF(h:∀d,(∀x∈u,d ∣ x) ↔ (∀x∈v,d ∣ x)):uk u=b3!:= _dt (zad u) (zad v) (z9W ((h _).mp z5W)) (z9W ((h _).mpr z5W))
theorem zfa{v:h!}{P:Int->k!}(h0:P 0):(∀x∈v,P x) ↔ ∀i,P b1!:=by
 constructor
 ·intro h i;by_cases hi:fp!;·exact h _ (hj! hi)
  ·simp[_K (qZ! hi),h0]
 ·intro h x hx;obtain⟨i,hi,rfl⟩:=p3!;simpa[_b hi] using (h i)
theorem zgG(r:Rl)(h:aH!)(he:es!):uk dA!=b3!:=by
 have dl:=qw r h he;have q:=zfV fX! dl;refine zmF λd=>?_;rw[(show (∀x∈dA!,d ∣ x) ↔ ∀x∈cG! dm! aI!,d ∣ x from by
  constructor;·exact λh x hx=>h x (z3Z.mpr hx)
  ·exact λh x hx=>h x (z3Z.mp hx)),zfa (_dH d),zfa (_dH d)];constructor
 ·intro hd i;have h1:=hd i;have h2:=hd aI!;rw[(show bd! (cG! dm! aI!) aI!=bt! aI! from by rw[vW mk!,jy,_o (λw=>dl.nb w.2)])]at h2;rw[vW mk!]at h1;have:=Int.dvd_add h1 (_bM h2 (Int.dvd_mul_left ..):d ∣ bd! dm! i*bt! aI!);rwa [Int.sub_add_cancel]at this
 ·intro hd i;rw[vW mk!];exact Int.dvd_sub (hd i) (_bM (hd aI!) (Int.dvd_mul_left ..))
theorem zms:∀v:List Int,v.sum=(nz v).sum
 | []=>rfl | a::v=>by
  have:=zms v;by_cases h:a=0;·subst h;simp[nz]at this ⊢;exact this
  ·simp[nz,h]at this ⊢;exact this
theorem ziU(h:aH!)(he:nB!=d!):v.sum=b3!:=by
 obtain⟨x,ex⟩:∃x,nz v=[x]:=by match hz:nz v,(show hr! v=1 from by simpa[ended] using he) with | [x],_=>exact cf! x
 have xm:=qF.mp (show x∈nz v by rw[ex];simp);rw[(show v.sum=x from by rw[zms,ex];simp)];refine _dt (h.nn x xm.1) (zad v) (z9W (cs! ?_)) (z5W x xm.1);by_cases y0:y=0;·subst y0;exact _dH _
 ·have := q0! ⟨hy,y0⟩;rw[ex]at this;simp at this;subst this;exact Int.dvd_refl _
structure PI(n:Nat)(B:Int)(P:Tb)(c x:h!):k! where
 tab:ff! P
 nn:∀row∈P,∀y∈row,0<=y/\y<=B
 eq:mv P c=x
theorem z1y(r:Rl)(h:aH!)(he:es!):ff! fR!:=zle r ju! (by rw[xl,h.len]) (by rw[<- h.len];exact (qw r h he).lt)
theorem zgK(r:Rl)(h:aH!)(he:es!):z0P fR!:=by
 have dl:=qw r h he;exact zi3 r ju! (by rw[xl,h.len]) (by rw[<- h.len];exact dl.lt) (zfV fX! dl).zero
theorem PI.step{n:Nat}{B:Int}{P:Tb}{c x:h!}(r:Rl)(I:PI n B P c x)(hx:∀y∈x,y<=B)(h:Lot n c)(he:ended c=t!):PI n B (kr P (kA r c)) (stp r c) x:=by
 have dl:=qw r h he;have q:=zfV fX! dl;have tt:=z1y r h he;have cw:∀row∈P,z67 (kA r c) row=ha! (zaQ (deal r c).1 (yX c (deal r c)) row):=λrow hr=>zj6 r ju! (by rw[xl,h.len]) (by rw[<- h.len];exact dl.lt) q.zero (I.tab.row row hr);have ri := λrow hr=>zkQ r q (hx _ (by rw[<- I.eq];exact _t.mpr ⟨row,hr,rfl⟩)) ⟨by rw[I.tab.row row hr,h.len],I.nn row hr,rfl⟩;refine⟨zek I.tab tt,λrow hr y hy=>?_,?_⟩
 ·rw[z2D ju! I.tab tt]at hr;obtain⟨w,hw,rfl⟩:=ke!;rw[cw w hw]at hy;exact (ri w hw).nn y hy
 ·rw[z2D ju! I.tab tt,<- I.eq];unfold mv;rw[_ak];refine _a0 λw hw=>?_;show dot (z67 (kA r c) w) (stp r c)=dot w c;rw[cw w hw];exact (ri w hw).dot
theorem zqw(n:Nat):∀row∈b0!,∀y∈row,0<=y/\y<=1:=λrow hr y hy=>by
 obtain⟨i,_,rfl⟩:=ke!;obtain⟨j,_,rfl⟩:=_t.mp hy;split<;>lia
theorem PI.start(h:aH!)(hx:∀y∈v,y<=B):PI n B b0! v v:=by
 have b1:1<=B:=by
  obtain⟨y,hy,h0⟩:=h.pos;have:=hx y hy;lia
 refine⟨zaI n,λrow hr y hy=>?_,zlC ju! h.len⟩;have:=zqw n row hr y hy;lia
theorem zo8(r:Rl)(h:aH!)(he:es!)(hb:∀y∈v,y<=B):∀row∈fR!,∀y∈row,0<=y/\y<=B:=by
 have e:=((PI.start h hb).step r hb h he).nn;rw[(za0 ju! (z1y r h he)).1]at e;exact e
theorem zrB(r:Rl)(h:aH!)(he:es!)(hb:∀y∈v,y<=B):∀y∈dA!,y<=B:=cs! (by
 have dl:=qw r h he;have q:=zfV fX! dl;obtain⟨i,hi,rfl⟩:=gM! (z3Z.mp hy);have b:=hb _ (hj! (by rw[<- uU mk!];exact hi));rw[(show (cG! dm! aI!)[i]=bd! (cG! dm! aI!) i from by simp[_b hi]),vW mk!,jy];split
 ·rename_i w;rcases dl.pos with z | z;·rw[z]at w;simp at w
  ·have:=zgP (uz fX! i) z;lia
 ·exact b)
noncomputable def scl(k:Int)(v:h!):h!:=v.map λx=>x*k
section
variable {k:Int}(hk:0<k)
include hk
theorem znw: x*k=y*k ↔ x=y:=⟨λh=>Int.eq_of_mul_eq_mul_right (by lia) h,λh=>by rw[h]⟩
theorem zoJ: x*k∈scl k v ↔ x∈v:=by
 unfold scl;rw[_t];exact⟨λ⟨y,hy,e⟩=>by rw[<- (znw hk).mp e];exact hy,λh=>aN! x h rfl⟩
theorem zoE(v:h!):v! (scl k v)=J!:=by simp[scl]
end
noncomputable def zN(r:Rl)(ls:f2!):ee! Tb:=ls.dropLast.map (kA r)
theorem Run.ne(R:gf! v):a1! ls:=by cases R<;>simp
theorem Run.tabs_cons(h:gf! dA!):zN r (v::ls)=fR!::jA!:=by
 obtain⟨a,t,rfl⟩:=List.exists_cons_of_ne_nil eQ!;rfl
noncomputable def z0g(n:Nat)(ts:ee! Tb):Tb:=ts.foldl kr b0!
theorem Run.fairP(h:aH!)(R:gf! v):∀P,ff! P->z0P P->z0P ((jA!).foldl kr P):=by induction R with
 | done e=>simpa[zN] using f | step e R ih=>
  intro P hP f;rw[R.tabs_cons];exact ih (o8! e) _ (zek hP (z1y r h e)) (zig ju! hP (z1y r h e) f (zgK r h e))
theorem Run.fair(h:aH!)(R:gf! v):z0P hC!:=R.fairP h _ (zaI n) (z! (zon ju!))
theorem Run.prod(h:aH!)(R:gf! v)(I:PI n B P v x)(hx:∀y∈x,y<=B):∃z,ls.getLast? = b! z/\ended z=d!/\Lot n z/\uk z=b3!/\PI n B ((jA!).foldl kr P) z x:=by induction R generalizing P with
 | done e=>exact⟨_,by rfl,e,h,rfl,by exact I⟩ | step e R ih=>
  obtain⟨z,h1,h2,h3,h4,h5⟩:=ih (o8! e) (I.step r hx h e);refine⟨z,?_,h2,h3,by rw[h4,zgG r h e],?_⟩;·rw[List.getLast?_cons,h1];rfl
  ·rw[R.tabs_cons];exact h5
theorem Run.whole(h:aH!)(R:gf! v)(hx:∀y∈v,y<=B):∃z,ls.getLast? = b! z/\ended z=d!/\Lot n z/\uk z=b3!/\PI n B hC! z v:=R.prod h (PI.start h hx) hx
open Dd (lexN)
theorem zfo:∀{a b:List Int},a≠b->gO! b a=! gO! a b
 | [],[],h=>gt! h | [],_::_,_=>rfl | _::_,[],_=>rfl | x::a,y::b,h=>by
  by_cases e:x=y
  ·subst e;simp only[lexN,_v];exact zfo (λz=>h (by rw[z]))
  ·have e':¬ y=x:=λz=>e jn!;simp only[lexN,e,e',_aU];by_cases l:x<y;·simp[l];lia
   ·simp[l];lia
theorem zhr:∀{a b c:List Int},gO! a b=d!->gO! b c=d!->gO! a c=d!
 | [],[],_,h,_=>by simp[lexN]at h | [],_::_,[],_,h=>by simp[lexN]at h | [],_::_,_::_,_,_=>rfl | _::_,[],_,h,_=>by simp[lexN]at h | _::_,_::_,[],_,h=>by simp[lexN]at h | x::a,y::b,z::c,h1,h2=>by
  simp only[lexN]at h1 h2 ⊢;by_cases e1:x=y
  ·subst e1;by_cases e2:x=z
   ·subst e2;simp only[_v]at h1 h2 ⊢;exact zhr h1 h2
   ·simp only[e2,_aU]at h2 ⊢;exact h2
  ·simp only[e1,_aU,_ax]at h1;by_cases e2:y=z
   ·subst e2;simp only[e1,_aU,_ax];exact h1
   ·simp only[e2,_aU,_ax]at h2;simp only[(show ¬ x=z from by lia),_aU,_ax];lia
abbrev Up(L:f2!):k!:=L.Pairwise λa b=>gO! a b=d!
end Pm
namespace Pg
open L2 Dd Pm
noncomputable abbrev iL(ns:h!):D!:=ie!
theorem zrK{i:Int} (h:eL!<2 ^ m)(hm:m<=bF!):eL!<BIG:=_j h (_A (by decide) (by lia))
theorem z0y(s:Sto)(ha:a.natAbs<2 ^ m)(hm:m<=bF!)(hb:b.natAbs<2 ^ k)(hk:k<=bF!):yC f9! e2! s=x! (a*b):=by rw[zgN,bP! (zrK ha hm) (zrK hb hk)]
theorem z6I(s:Sto)(hb:0<b):zeK f9! e2! s=x! (a % b):=by rw[zpo,_h hb]
theorem zes(s:Sto)(h:∀x∈xs,x=eV!):zgs [bH!] s=cj!:=by simp[zgs,zW,(show oi! xs=b! (nX! (λ_=>d!)) from by
  conv=>lhs;rw[(show xs=(nX! (λ_=>d!)).map D.bl from by
  rw[_ak];conv=>lhs;rw[<- List.map_id xs]
  exact _a0 (ah! (h x hx)))]
  exact zbk _)]
theorem z92(s:Sto)(h:a1! ns):um [n! (iL ns)] s=x! nC!:=by cases ns with
 | nil=>exact gt! h | cons n ns=>simp only[um,zW,_M,uH]
theorem zlT(s:Sto)(h:a1! ns):z87 [n! (iL ns)] s=x! (jX! ns):=by cases ns with
 | nil=>exact gt! h | cons n ns=>simp only[z87,zW,_M,uH]
theorem zps(s:Sto)(h:a1! ns):um [bJ! ns] s=x! nC!:=by cases ns with
 | nil=>exact gt! h | cons n ns=>simp only[um,zW,_M,uH]
theorem zkv(h:a1! ns)(e:G! s l (iL ns)):um [dP!] s=x! nC!:=by cases ns with
 | nil=>exact gt! h | cons n ns=>simp only[um,zW,e,_M,uH]
theorem zj8(xs:D!)(s:Sto):gIs dr! ap! s=cj!:=U!
theorem ztN(x:Str)(s:Sto):gIs gj! bY! s=cj!:=U!
theorem z4d(xs:D!)(s:Sto)(h:2<=w!/\w!<=4):xa [ap!] s=cj!:=by simp[xa,Mof,jn,zy,zj8,yF,zW,(show j! 2<=w! from by lia),(show j! w!<=4 from by lia)]
theorem z0S(ns:h!) (s:Sto) (h:dn! fA!):zQ [n! (iL ns),c! fA!] s=cj!:=by
 simp[zQ,Mof,qO,zy,zj8,yF,zW];rw[zbw (λ_=>D.bl d!) (iL ns) [] (by intro x hx;obtain⟨n,_,rfl⟩:=ho!;rfl) (by simp[cap];lia)];simp only[Rb,_ar];rw[zes s (by intro x hx;obtain⟨_,_,rfl⟩:=ho!;rfl)];rfl
theorem ug{α:b4!} (g f:α->D):∀(l:List α)(acc:List D),(∀a∈l,body (g a) s=i! (b! (f a)))->h9!+iL!<=cap->qu [] all dF! kg! acc s=i! (acc++mU!)
 | [],acc,_,_=>by simp[qu,okG] | x::xs,acc,hb,hl=>by
  rw[_p,qu];simp[okG,hb x (by simp),(show h9!<cap from by simp at hl;lia),(ug (all:=all) g f xs (acc++[f x]) (cs! (hb y (by simp[hy]))) (by simp at hl ⊢;lia))]
theorem zm2(ns:h!)(s:Sto):zn1 [bJ! ns] s=x! ns.sum:=by simp only[zn1,zW,_M,uH]
theorem zw:∀(r v:List Int),ot! (λa b=>a*b) r v=kb! r v (λp=>p.1*p.2)
 | [],_=>by rfl | _::_,[]=>by rfl | a::r,b::v=>by simp[zw r v]
theorem z9T:∀(r v:List Int),z4I (iL r) br!=kb! r v (iT! (cU! p.1 p.2))
 | [],_=>by rfl | _::_,[]=>by rfl | a::r,b::v=>by simp[z4I,(z9T r v)]
theorem zcE(i j:Nat)(s:Sto):wG [Y!,c! j] s=x! (sg i j):=by
 simp[wG,Mof,z91,zy,z6I s (show 0<2 by decide)];unfold sg;by_cases h:(i+j) % 2=0;·simp[h,(show (j! i+j) % 2=0 from by lia)]
 ·simp[h,(show ¬ (j! i+j) % 2=0 from by lia)]
theorem z4k(s:Sto)(hr:∀x∈r,c7! m)(hv:∀x∈v,c7! k)(hm:m<=bF!)(hk:k<=bF!)(hl:aE!<=4):wd [n! (iL r),n! br!] s=x! (eq! r):=by
 simp[wd,Mof,z6l,zy,z94,(z9T r v),-List.map_map];rw[ug _ (pB! (aK! (p.1*p.2))) _ [] (by
  intro p hp;simp[z0y s (hr p.1 (l2!).1) hm (hv p.2 (l2!).2) hk]) (by simp[cap];lia)];simp only[Rb,_ar];rw[(show kb! r v (pB! (aK! (p.1*p.2)))=iL (kb! r v (λp=>p.1*p.2)) from by simp[_L]),zm2];simp[dot,zw]
noncomputable abbrev rD(r:h!):D:=n! (iL r)
noncomputable abbrev tD(T:Tb):D:=n! nz!
theorem zaM(s:Sto)(h:Bd m T)(hv:∀x∈v,c7! k)(hm:m<=bF!)(hk:k<=bF!)(hl:∀r∈T,aE!<=4)(hT:aZ!<=4):xR [tD T,n! br!] s=a7! (iL (mv T v)):=by
 simp only[xR,Mof,z2h,zy,tD];simp[-List.map_map];rw[ug rD (λr=>aK! (eq! r)) T [] (by
  intro r hr;simp[(z4k s (h r hr) hv hm hk (hl r hr))]) (by simp[cap];lia)];simp[zV,zW,mv,_L]
theorem z8Y{j:Nat} (s:Sto)(h:G! xs j d):c5! ap! j s=i! d:=by
 have hj := cV! h;simp only[dIx,zW,atI,(show kP! j=b! j from by
  unfold ixN;rw[_h (by lia),_h (by lia)];rfl),_M,h]
theorem zeo(hn:dn! n)(h:ar ρ s=P! [c! n]):jW ar ρ s=P! (yt n,[]):=by
 rw[zeT,h,Rb];simp only;rw[_h (by lia),_T]
theorem zvZ{k:Nat} (s:Sto) (hk:∀r∈T,k<aE!) (hT:aZ!<=4):zv cW! cb! (yg 1) zU (bl! 0) [ch! T,bT!] s=i! (bJ! (ou! (λr=>cT! k))):=by
 simp[-List.map_map];rw[ug rD (λr=>aK! (cT! k)) T [] (by
  intro r cN;simp[(z8Y (xs:=iL r) (j:=k) (d:=c! (cT! k)) s (by simp[_b (hk r cN),List.getD]))]) (by simp[cap];lia)];simp[_L]
theorem zvq(s:Sto) (hr:∀r∈T,aZ!<=aE!) (hT:aZ!<=4): zv (jW (aU! cX!)) (ad! 0) (yg 1) zU (dj! cW! cb! 1 (bl! 0)) [ch! T] s=bA! (eB! (ym T)):=by
 rw[uh,uJ,zeo (n:=T.length) (s1:=s) (by lia) (by simp[yF,zW]),Rb];simp only[yt];rw[ug (fD! k) (λk:Nat=>rD (ou! (λr=>cT! k))) (iC! aZ!) [] (by
  intro k hk;rw[ua,Rb,z4e,Rb,yi,zr,show (wU (ad! 0) [ch! T]).set 1 bT!=[ch! T,bT!] from rfl,zvZ s (λr cN=>_j (by simpa using hk) (hr r cN)) hT];rfl) (by simp[cap];lia)];simp[ym,_L]
theorem ztf(s:Sto)(x:D!)(h:zv (jW (aU! cX!)) (ad! 0) (yg 1) zU (dj! cW! cb! 1 (bl! 0)) [g!] s=bA! x):yZ [d] s=a7! x:=by
 have st:zy [eu!] [d]=[g!]:=rfl;simp only[yZ,Mof,z2S,st,_i,_k,_v,z1M,yo,yi,zr,h,Rb,zK,zV,zW]
theorem z4p(s:Sto)(hr:∀r∈T,aZ!<=aE!)(hT:aZ!<=4):yZ [tD T] s=g4! (ym T):=ztf s _ (zvq s hr hT)
theorem zgj(s:Sto) (hn:ba!) (h:g5!):uy [tD T] s=cj!:=by
 have hl:=h.len;refine (λd h1 h2=>by
  have st:zy df! [d]=[g!]:=rfl;simp only[uy,Mof,z7c,st,_v];rw[zn (ρ':=[g!]) (s':=s) (by simp[h1])];simp only[z57,yo,yi,zr,h2,Rb,zK];rw[zes s (by intro x hx;obtain⟨_,_,rfl⟩:=ho!;rfl)];rfl:∀d:D,xa [d] s=cj!->zv cW! (ad! 0) (yg 1) zU (ek! zQ r! cX!) [g!] s=bA! (ou! (λ_=>D.bl d!))->uy [d] s=cj!) _ (z4d nz! s (by simp[hl];lia)) ?_;rw[uh,uJ];simp only[ke,yh,_c,Rb];rw[ug rD (λ_=>D.bl d!) T [] (by
  intro r hr;have hw:=z0S r s (by have:=jt! r hr;lia);rw[jt! r hr,<- hl]at hw;simp[yF,zW,hw]) (by simp[cap];lia)];rfl
theorem z16(s:Sto)(hn:ba!)(h:g5!):yP [tD T] s=fi!:=(λd h1=>by simp[yP,Mof,z2X,zy,h1]:∀d:D,uy [d] s=cj!->yP [d] s=fi!) _ (zgj s hn h)
theorem zup{d e c:D}{cs:f2!}(s:Sto)(f:h!->D)(hc:yZ [e] s=a7! (cs.map rD))(h:∀r∈cs,xR [d,rD r] s=i! (f r))(hl:cs.length<=4): zv (zP (bN! yZ 1)) (ad! 0) (yg 1) zU (cM! xR) hv! s=bA! (cs.map f):=by
 rw[uh,uJ];simp only[ke,yi,zr,zK,yh,_c,_d,Rb,hc];rw[ug rD f cs [] (by
  intro c hc;simp only[ua,Rb,z4e,_v,kB,kI,_c,_aE,_E,_B,_d,h c hc]) (by simp[cap];lia),Rb,_ar]
theorem ztE(s:Sto) (h1:yP [d] s=fi!) (h2:yP [e] s=fi!) (h3:yF [d] s=x! n) (h4:yF [e] s=x! n) (h5:zv (zP (bN! yZ 1)) (ad! 0) (yg 1) zU (cM! xR) hv! s=bA! x) (h6:yZ [n! x] s=i! f):vF [d,e] s=i! f:=by
 have st:zy mV! [d,e]=hv!:=rfl;simp only[vF,Mof,z3n,st,_i,_k,_v];rw[zn (ρ':=hv!) (s':=s) (by simp[h1]),zn (ρ':=hv!) (s':=s) (by simp[h2]),zn (ρ':=hv!) (s':=s) (by simp[h3,h4])];simp only[z2i,yo,yi,zr,h5,Rb,zK];rw[(show zV [W! x] s=a7! x from by rfl),Rb,Rb,h6,Rb]
theorem zbh(s:Sto)(hn:ba!)(ha:iw!)(hb:ff! B)(hA:Bd m A)(hB:Bd k B)(hm:m<=bF!)(hk:k<=bF!):vF [tD A,tD B] s=g4! (kr A B):=by
 have w2:=z16 s hn hb;have c1:=z4p s (cO! (by rw[hb.row r hr,hb.len];lia)) (by rw[hb.len];lia);have lc:v! (ym B)=n:=by simp[ym,hb.len]
 have g2:yF [tD B] s=x! n:=by simp[yF,zW,hb.len]
 refine ztE s (z16 s hn ha) w2 (by simp[yF,zW,ha.len]) g2 (zup (c:=an!) s (λr=>rD (mv A r)) c1 (cO! (zaM s hA (zmN hB r hr) hm hk (ha.le hn) (by rw[ha.len];lia))) (by lia)) ?_;rw[(show (ym B).map (λr=>rD (mv A r))=eB! ((ym B).map (mv A)) from by rw[_ak];rfl)];exact (z4p (T:=(ym B).map (mv A)) s (cO! (by
  obtain⟨c,_,rfl⟩:=ke!;simp[mv,ha.len,lc])) (by simp[lc];lia))
theorem z2k(xs:D!)(i:Nat)(s:Sto):dSl ap! a! (b! (j! i)) s=a7! (nb! i):=by simp only[dSl,(show Dd.cutD xs a! is!=nb! i from by
  unfold Dd.cutD;rw[HT.zeq,HT.zhH];simp[List.take_eq_take_min])]
theorem z2s(xs:D!)(i:Nat)(s:Sto):dSl ap! (b! (j! i)) a! s=a7! (li! i):=by simp only[dSl,(show Dd.cutD xs is! a!=li! i from by
  unfold Dd.cutD;rw[HT.zeq,HT.zhH];by_cases h:i<=w!
  ·rw[Nat.min_eq_left h];exact List.take_of_length_le (by simp)
  ·rw[Nat.min_eq_right (by lia)];simp[List.drop_of_length_le (show w!<=i by lia)])]
theorem zlD{f g h:FE} {j:Nat}(hf:ay!=i! ap!)(hg:g ρ s=x! j)(hl:dn! w!): eOp xh (gc! f g) (e4! f (bc! g ae!)) ρ s=a7! (nb! j++li! (j+1)):=by
 have e2:=z2s xs (j+1) s;rw[show ((j+1:Nat))=j! j+1 from rfl]at e2;simp only[yH,zaK,qh,z1e,qr,hf,hg,Rb,zbz,(z2k xs j s),e2,z36,_h (show v! (nb! j)+v! (li! (j+1))<=cap from by simp[cap];lia)]
theorem zbT(i j:Nat) (s:Sto) (hT:aZ!<=4) (hr:∀r∈T,aE!<=4):xW [tD T,Y!,c! j] s=g4! (e8! i j):=by
 have h0:=zlD (f:=q!) (g:=r!) (h:=q!) (ρ:=fd! (tD T) Y! aY!) (s:=s) (xs:=nz!) (j:=i) (by rfl) (by rfl) (by simp;lia);have:=(λd K h hK oI=>by
  have st:zy [jr!,"at_line",qM!,"kept"] [d,Y!,c! j]=fd! d Y! aY!:=rfl;simp only[xW,Mof,z9m,st,_i,_k,_v];rw[zn (ρ':=[g!,e! i,aY!,b! (n! (pC! rD))]) (s':=s) (by rw[z6O,zR,h];rfl)];have c:zv kw! (ad! 2) (yg 1) zU (bc! (gc! r! q!) (e4! r! (f7! 0))) [g!,e! i,aY!,b! (n! (pC! rD))] s=bA! (pC! (λr=>rD (qW! j++n9! (j+1)))):=by
   rw[uh,uJ];simp only[ke,yh,_c,_d,Rb];rw[ug rD (λr=>rD (qW! j++n9! (j+1))) K [] (by
    intro r cN;simp only[ua,Rb,z4e,kB,kI,jv,_c,_d,_aE,_E,_B];rw[(zlD (f:=r!) (g:=q!) (h:=q!) (ρ:=[aY!,bu! r]) (s:=s) (xs:=iL r) (j:=j) (by rfl) (by rfl) (by have:=oI r cN;simp;lia)),Rb];simp[_aT]) (by simp[cap];lia),Rb,_ar]
  rw[z74,yo,yi,zr,c,Rb,zK,Rb,Rb,(show zV [W! (pC! (λr=>rD (qW! j++n9! (j+1))))] s=a7! (pC! (λr=>rD (qW! j++n9! (j+1)))) from by rfl),Rb]:∀(d:D) (K:Tb),(bc! (gc! q! r!) (e4! q! (f7! 1))) (fd! d Y! aY!) s=a7! (pC! rD)->K.length<=4->(∀r∈K,aE!<=4)-> xW [d,Y!,c! j] s=a7! (pC! (λr=>rD (qW! j++n9! (j+1))))) (tD T) (T.take i++T.drop (i+1)) (by rw[h0];simp[_ci,_aT]) (by simp;lia) (λr cN=>hr r ((cO! (mR! hr _S _aC)) r cN));rw[this];simp[z1N,_L]
theorem zdE(r:h!):z2E 0 (iL r)=aP! aE! (λ(j:Nat)=>gN! (cU! (j! j) (cT! j))):=by
 apply _c6;intro k;by_cases h:k<aE!
 ·have h1:k<v! (z2E 0 (iL r)):=by rw[jF];simpa using h
  obtain⟨x,e1,e2⟩:=zaq (_b h1);rw[_b h1,e2];simp only[_C,_b h,_ah,_y]at e1;rw[<- e1];simp[h,List.getD]
 ·rw[_K (by rw[jF];simp;lia),_K (by simp;lia)]
theorem jz{j:Nat}(s:Sto)(h:j<aE!):c5! (rD r) (j! j) s=x! (cT! j):=z8Y s (by simp[_b h,List.getD])
theorem zl0(i j:Nat):bE! (sg i j)<2 ^ 1:=by rw[zhi];decide
theorem z6B(hm:m<=400):∀(k:Nat) (T:Tb) (s:Sto),aZ!<=k->1<=aZ!->aZ!<=4->(∀r∈T,aE!=aZ!)->Bd m T->yM k [tD T] s=x! (det k T)
 | 0,T,s,h0,h1,_,_,_=>by lia | k+1,T,s,h0,h1,h4,hr,hb=>by
  have ih:=λU oJ oK oM oN oO=>z6B hm k U s oJ oK oM oN oO;have lO:jG! 0∈T:=by rw[List.getD,_b (by lia)];exact _O _
  have l0:=hr _ lO;have b0:=hb _ lO;have gl:yF [tD T] s=x! aZ!:=by simp[yF,zW]
  have i0:c5! (tD T) 0 s=i! (rD (jG! 0)):=by exact (z8Y (xs:=nz!) (j:=0) (d:=rD (jG! 0)) s (by simp[_b (show 0<aZ! by lia),List.getD]))
  have st:∀d:D,zy [jr!] [d]=[g!]:=λ_=>rfl;by_cases he:aZ!=1
  ·have key:∀(d e:D) (x:Int),yF [d] s=x! 1->c5! d 0 s=i! e->c5! e 0 s=x! x->yM (k+1) [d] s=x! x:=λd e x a1 a2 a3=>by
    rw[yM];simp only[Mof,z1c,st,_i,_k,_v];rw[z0D (d:=c! x) (s':=s) (by simp[a1,a2,a3])]
   rw[key (tD T) _ _ (by rw[gl,he];rfl) i0 (jz (j:=0) s (by lia)),det,_h he]
  ·have en:=zdE (jG! 0);rw[l0]at en;have wl:∀j,v! (e8! 0 j)=aZ!-1:=λj=>z61 (by lia);have wr:∀j,j<aZ!->∀r∈e8! 0 j,aE!=v! (e8! 0 j):=λj hj r cN=>by
    rw[wl];obtain⟨q,hq,rfl⟩:=_t.mp cN;have:=hr q (mR! hq _S _aC);simp;lia
   have fO:∀j∈iC! aZ!,wG (cU! 0 j) s=x! (sg 0 j)/\xW [tD T,cL!,c! j] s=g4! (e8! 0 j)/\yM k [tD (e8! 0 j)] s=x! (det k (e8! 0 j))/\ yC (c! (sg 0 j)) (c! (bd! (jG! 0) j)) s=x! (sg 0 j*bd! (jG! 0) j)/\yC (c! (sg 0 j*bd! (jG! 0) j)) (c! (det k (e8! 0 j))) s=x! (sg 0 j*bd! (jG! 0) j*det k (e8! 0 j)):=λj hj=>by
    have s1 := zcE 0 j s;have s3:=ih (e8! 0 j) (by rw[wl];lia) (by rw[wl];lia) (by rw[wl];lia) (wr j (by simpa using hj)) (z4f hb 0 j);have b1:=z6v b0 j;have b2:=zeC k (e8! 0 j) (z4f hb 0 j) (by rw[wl];lia) (by rw[wl];lia);have m1:=z0y s (zl0 0 j) (by decide) b1 (by lia);have m2:=z0y s (zhf (zl0 0 j) b1) (by lia) (_j b2 (_A (by decide) (by
     rw[wl];have:(aZ!-1)*m<=3*m:=_aB _ (by lia);lia))) ak!;exact⟨s1,(zbT 0 j s h4 (λr cN=>by rw[hr r cN];exact h4)),s3,m1,m2⟩
   rw[det,_o he];refine (λd e n a1 a2 a3 x a4=>by
    rw[yM];simp only[Mof,z1c,st,_i,_k,_v];rw[zn (ρ':=[g!]) (s':=s) (by simp[a1,a2])];rw[z35,yo,yi,zr,a3,Rb,zK,Rb,Rb,a4,Rb]:∀(d e:D) (n:Int),yF [d] s=x! n->n≠1->(zv (z2G (aU! (hx! 0))) (dw! 0) (yT 1 2) zU (gA! (gA! (ek! wG B! r!) N!) (aG! (yM k) (zg xW (zb q! (ib! B! 1)))))) [g!] s=i! e-> ∀x,zn1 [e] s=x! x->yM (k+1) [d] s=x! x) (tD T) (bJ! (aP! aZ! (λj=>sg 0 j*bd! (jG! 0) j*det k (e8! 0 j)))) aZ! gl (by lia) ?_ _ (zm2 _ s);rw[uh,uJ];simp only[zoi,zr,zK,yH,yh,qr,_c,Rb,i0,z94];rw[en];rw[ug (λj:Nat=>gN! (cU! j (bd! (jG! 0) j))) (λj:Nat=>aK! (sg 0 j*bd! (jG! 0) j*det k (e8! 0 j))) (iC! aZ!) [] (by
    intro j hj;obtain⟨s1,s2,s3,m1,m2⟩:=fO j hj;simp only[z9y,Rb,z4e,_v,kB,kI,jv,_c,_d,_aE,_E,_B,yH,yi,zr,zK,qr,yh,s1,s2,s3,m1,m2]) (by simp[cap];lia)];simp[_L]
theorem zf1(s:Sto)(hn:n=1\/ba!)(h:g5!)(hb:Bd m T)(hm:m<=400):xJ [tD T] s=x! (eF! T):=by
 have hl:=h.len;exact z6B hm 4 T s (by lia) (by lia) (by lia) (cO! (by rw[jt! r hr,hl])) hb
theorem zct(s:Sto) (hn:ba!) (h:g5!) (hb:Bd m T) (hm:m<=400):vI [tD T] s=x! (eF! T):=by
 have w1:=z16 s hn h;exact (λd x a1 a2=>by
  have st:zy [eu!] [d]=[g!]:=rfl;simp only[vI,Mof,z2V,st,_i,_k,_v];rw[zn (ρ':=[g!]) (s':=s) (by simp[a1])];simp only[kz,yo,yi,zr,zK,yh,_c,Rb,a2]:∀(d:D) (x:Int),yP [d] s=fi!->xJ [d] s=x! x->vI [d] s=x! x) _ _ w1 (zf1 s (T! hn) h hb hm)
theorem z5T(h:g5!)(hi:i<n)(hj:j<n):Tab (n-1) (e8! i j):=by
 refine⟨by rw[z61 (by rw[h.len];exact hi),h.len],cO! ?_⟩;obtain⟨q,hq,rfl⟩:=ke!;have:=jt! q (mR! hq _S _aC);simp;lia
theorem tbE(s:Sto)(hn:ba!)(h:g5!)(hb:Bd m T)(hm:m<=400)(ht:t.natAbs<2 ^ 1)(hi:i<n)(hj:j<n): (gA! (fK! 0 (gu! wG 1 3)) (aG! xJ (zg xW (fr! N! 3 1)))) [e! t,e! (j! i),ch! T,e! (j! j)] s=x! (t*sg i j*eF! (e8! j i)):=by
 have s1:=zcE i j s;have s2:=zbT j i s (by rw[h.len];lia) (h.le hn);have s3:=zf1 s (by lia) (z5T h hj hi) (z4f hb j i) hm;have b2:=zeC 4 (e8! j i) (z4f hb j i) (by rw[(z5T h hj hi).len];lia) (by rw[(z5T h hj hi).len];lia);simp only[yH,yi,zr,zK,yh,_c,_d,Rb,s1,s2,s3,(z0y s ht (by decide) (zl0 i j) (by decide)),(z0y s (zhf ht (zl0 i j)) (by decide) (_j b2 (_A (by decide) (by
  rw[(z5T h hj hi).len];have:(n-1)*m<=3*m:=_aB _ (by lia);lia))) ak!)]
theorem tbI(s:Sto) (hn:ba!) (h:g5!) (hb:Bd m T) (hm:m<=400) (ht:t.natAbs<2 ^ 1) (hi:i<n): zv cW! (fl! 1 3 2) (yg 3) zU (gA! (fK! 0 (gu! wG 1 3)) (aG! xJ (zg xW (fr! N! 3 1)))) [bg! (yt n),e! t,ch! T,e! (j! i)] s= i! (bJ! (aP! n (λj=>t*sg i j*eF! (e8! j i)))):=by
 rw[uh,uJ];simp only[ke,yh,_c,Rb,yt];rw[ug (fD! k) (λj:Nat=>aK! (t*sg i j*eF! (e8! j i))) iO! [] (by
  intro j hj;simp only[ua,Rb,z4e,_v,kB,kI,jv,_c,_d,_aE,_E,_B];rw[(tbE s hn h hb hm ht hi (by simpa using hj)),Rb]) (by simp[cap];lia)];simp[_L]
theorem tbO(s:Sto) (hn:ba!) (h:g5!) (hb:Bd m T) (hm:m<=400) (ht:mI! T<2 ^ 1): zv (zP N!) (fl! 2 1 0) (yg 3) zU (dj! cW! (fl! 1 3 2) 3 (gA! (fK! 0 (gu! wG 1 3)) (aG! xJ (zg xW (fr! N! 3 1))))) [ch! T,e! (eF! T),bg! (yt n)] s=bA! (eB! (gP! T)):=by
 rw[uh,uJ];simp only[ke,yh,_c,_d,Rb];rw[show yt n=aP! n (fD! k) from rfl,ug (fD! k) (λi:Nat=>rD (aP! n (λj=>eF! T*sg i j*eF! (e8! j i)))) iO! [] (by
  intro i hi;have q:=tbI s hn h hb hm ht (by simpa using hi);rw[show yt n=aP! n (fD! k) from rfl]at q;simp only[ua,Rb,z4e,_v,kB,kI,jv,_c,_d,_aE,_E,_B];rw[yi,zr,q,Rb,zK,Rb,Rb,(λx=>by rfl:∀x:List D,zV [W! x] s=a7! x),Rb]) (by simp[cap];lia),Rb,_ar];simp only[back,h.len,_ak,_L]
theorem z9A(s:Sto) (hn:ba!) (h:g5!) (hb:Bd m T) (hm:m<=400) (hf:z0P T):qT [tD T] s=g4! (gP! T):=by
 have w1:=zct s hn h hb hm;have c:=tbO s hn h hb hm (by rcases hf with e | e<;>rw[e]<;>decide);exact (λd t x a1 a2 a3 a4=>by
  have st:zy [eu!,op!,lA!] [d]=dw! d:=rfl;simp only[qT,Mof,z21,st,_i,_k,_v];rw[zn (ρ':=[g!,e! t,a!]) (s':=s) (by simp[a1]),zn (ρ':=[g!,e! t,a!]) (s':=s) (by rcases a2 with rfl | rfl<;>rfl),zn (ρ':=[g!,e! t,bg! (yt n)]) (by
   simp only[jq,zR,zpv,zr,zK,yi,yh,_c,Rb,a3,_h (show j! 0<=n/\j! n<=fv! from by lia),_T];rfl)];rw[jo,yo,yi,zr,a4,Rb,zK,Rb,Rb,(show zV [W! x] s=a7! x from by rfl),Rb]:∀(d:D) (t:Int) (x:List D),vI [d] s=x! t->(t=1\/t=-1)->yF [d] s=x! n->zv (zP N!) (fl! 2 1 0) (yg 3) zU (dj! cW! (fl! 1 3 2) 3 (gA! (fK! 0 (gu! wG 1 3)) (aG! xJ (zg xW (fr! N! 3 1))))) [g!,e! t,bg! (yt n)] s=bA! x->qT [d] s=a7! x) _ _ _ w1 hf (by simp[yF,zW,h.len]) c
theorem z34{α:b4!} (g f:α->D)(p:eG! α):∀(l:List α)(acc:List D),(∀a∈l,body (g a) s=i! (aF! (p a) (b! (f a)) a!))->h9!+iL!<=cap->qu [] all dF! kg! acc s=i! (acc++(l.filter p).map f)
 | [],acc,_,_=>by simp[qu,okG] | x::xs,acc,hb,hl=>by
  rw[_p,qu,_h (by intro p hp;cases hp),hb x (by simp)];cases hp:p x with
  | true=> simp[(show h9!<cap from by simp at hl;lia),(z34 (all:=all) g f p xs (acc++[f x]) (cs! (hb y (by simp[hy]))) (by simp at hl ⊢;lia)),hp] | false=> simp[(z34 (all:=all) g f p xs acc (cs! (hb y (by simp[hy]))) (by simp at hl ⊢;lia)),hp]
theorem xK{α:b4!} (g f:α->D)(p:eG! α)(ev:α->Ev)(l:eX!) (hi:fi ρ s=i! (kg!,[]))(hg:∀a∈l,fg (g a) jb! s=i! (ev a))(ht:∀a∈l,ft (ev a) s=i! (p a))(he:∀a∈l,p a=d!->fe (ev a) s=i! (f a))(hl:iL!<=cap): zv fi mp fg ft fe ρ s=bA! ((l.filter p).map f):=by
 rw[uh,uJ,hi,Rb,z34 g f p l [] (by
  intro a ha;simp only[hg a ha,ht a ha,Rb];cases hp:p a with
  | true=>simp[he a ha hp] | false=>rfl) (by simpa using hl)];rfl
theorem comp_map{α:b4!} (g f:α->D)(ev:α->Ev)(l:eX!) (hi:fi ρ s=i! (kg!,[]))(hg:∀a∈l,fg (g a) jb! s=i! (ev a))(he:∀a∈l,fe (ev a) s=i! (f a))(hl:iL!<=cap): zv fi mp fg zU fe ρ s=bA! mU!:=by
 have:=xK (ft:=zU) g f (λ_=>d!) ev l hi hg (λa _=>rfl) (λa ha _=>he a ha) hl;rw[(_bI.mpr (by simp))]at this;exact this
theorem qV(h:ay!=i! ap!):zP f ρ s=i! (xs,[]):=by simp[h]
theorem jA(h:ay!=i! bH!):zP f ρ s=i! (xs,[]):=by simp[h]
structure LotB(n m:Nat)(v:h!):k! extends aH! where bd:∀x∈v,x<2 ^ m
theorem LotB.abs{n m:Nat}{v:h!}(h:fo!):∀x∈v,c7! m:=ah! (by
 have:j! mj!<ab! (2 ^ m):=by rw[(_bA (h.nn x hx))];exact (h.bd x hx)
 lia)
theorem LotB.toN(h:fo!):∀x∈v,ol!<2 ^ m:=ah! (by
 have h1:=h.abs x hx;lia)
theorem _root_.Pm.Lot.le4(h:aH!):J!<=4/\2<=J!:=by have:=h.len;have:=h.sz;lia
theorem zeQ(h:aH!)(s:Sto):yA [M!] s=cj!:=by
 have l4:=h.le4;have h1:=z4d br! s (by simp;lia);have h2:=z0S v s (by lia);have g1:=z92 s eQ!;have g2:=zlT s eQ!;have mx:0<ip!:=by obtain⟨x,hx,h0⟩:=h.pos;have:=oh! x hx;lia
 exact (λd a1 a2 a3 a4 a5=>by simp[yA,Mof,jc,zy,a1,a2,a3,a4,a5,(h.nn _ (rJ! eQ!)),mx]:∀d:D,xa [d] s=cj!->yF [d] s=x! J!->zQ [d,c! J!] s=cj!->um [d] s=x! ip!->z87 [d] s=x! (jX! v)->yA [d] s=cj!) _ h1 (by simp[yF,zW]) h2 g1 g2
theorem kM(h:aH!)(s:Sto):yQ [M!] s=fi!:=by exact (λd a1=>by simp[yQ,Mof,z7p,zy,a1]:∀d:D,yA [d] s=cj!->yQ [d] s=fi!) _ (zeQ h s)
theorem nzC{mp:eY!}(hf:ay!=i! M!)(hl:J!<=4):zv (zP f) [a!] (yg 0) (el! 0 B!) q! ρ s=i! (bJ! (nz v)):=by
 rw[xK rK! rK! (λx=>ci! x 0) (λx=>[e! x]) v (qV hf) (λa _=>by rfl) (λa _=>by simp) (λa _ _=>by rfl) (by simp[cap];lia)];rfl
theorem z6c(h:aH!) (s:Sto):xQ [M!] s=aV! nB!:=by exact (λd a1 a2=>by
  have st:zy hX! [d]=[g!]:=rfl;simp only[xQ,Mof,z4w,st,_i,_k,_v];rw[zn (ρ':=[g!]) (s':=s) (by simp[a1])];simp only[z3g,yo,yH,yi,zr,zK,qr,a2,Rb];simp only[yF,zW,Rb,zdv,_X];have:a5! (j! (hr! v)=1)=nB!:=by
   unfold ended;by_cases e:hr! v=1;·simp[e]
   ·have:¬ j! (hr! v)=1:=by lia
    simp[e,this]
  rw[this]:∀d:D,yQ [d] s=fi!->zv cW! [a!] (yg 0) (el! 0 B!) q! [g!] s=i! (bJ! (nz v))->xQ [d] s=aV! nB!) _ (kM h s) (nzC (mp:=[]) (by rfl) (q3!).1)
theorem zhN(hb:0<b):cg b (a % b)=cg a b:=by
 have e:=_a5 a b;refine _dt (by simp[cg]) (by simp[cg]) ?_ ?_
 ·have h1:cg b (a % b) ∣ b:=_ds ..;have h2:cg b (a % b) ∣ a % b:=_c5 ..;refine Int.dvd_coe_gcd ?_ h1;have h3:=Int.dvd_add (_bM h1 (Int.dvd_mul_right b (a / b))) h2;rwa [e]at h3
 ·have h1:cg a b ∣ a:=_ds ..;have h2:cg a b ∣ b:=_c5 ..;refine Int.dvd_coe_gcd h2 ?_;have:a % b=a-b*(a / b):=by lia
  rw[this];exact Int.dvd_sub h1 (_bM h2 (Int.dvd_mul_right ..))
theorem zis(h:0<=a):cg a 0=a:=by
 unfold cg;rw[Int.gcd_zero_right];lia
theorem zfj(s:Sto):∀(k:Nat)(a b:Int),0<=a->0<=b->pm!<k-> vw (el! 1 B!) uC k [e! a,a8!] s=aW! [e! (cg a b),e! 0]
 | 0,a,b,_,_,h=>by lia | k+1,a,b,ha,hb,h=>by
  rw[vw];by_cases e:b=0
  ·subst e;simp[zis ha]
  ·have b0:0<b:=by lia
   have m:=z6I (a:=a) s b0;have h1:=_a9 a (show b≠0 by lia);have h2:=_bn a b0;have ih:=zfj s k b (a % b) hb h1 (by lia);have e1:tOf (ej! dNe 1 B!) [e! a,a8!] s=kY!:=by simp[e]
   have e2:uC [e! a,a8!] s=aW! [a8!,e! (a % b)]:=by simp[m]
   rw[e1,Rb,gx!,e2,Rb];show vw _ _ k _ s=_;rw[ih,zhN b0]
theorem z6r(ha:0<=a)(hb:0<=b)(s:Sto):vX [f9!,e2!] s=x! (cg a b):=by
 have st:zy mV! [f9!,e2!]=[e! a,a8!]:=rfl;simp only[vX,Mof,z0E,_v];rw[zn (by rw[kG];exact z3m (zfj s (pm!+1) a b ha hb (by lia)) (by simp))];rfl
theorem z6z(s:Sto)(x y:fG!):∀(v:List Int)(a:Int)(all:List D)(z:Option D),0<=a->(∀x∈v,0<=x)->∃z',yU [] all (eA! (yg 2 d ρ s) (z3I ρ' s')) br! [x,e! a,z] s=aW! [x,e! (oY! a),z']
 | [],a,all,z,_,_=>⟨z,by simp[yU,okG]⟩ | b::v,a,all,z,ha,hv=>by
  have hb:=hv b (by simp);obtain⟨z',ih⟩:=z6z s x y v (cg a b) all a8! (by simp[cg]) λw hw=>hv w (by simp[hw]);refine aw! z' ?_;have c2:=z6r ha hb s;simp only[_p,yU];rw[_h (by intro p hp;cases hp)];simp only[iL]at ih;have e2:z3I [x,e! a,a8!] s=aW! [x,e! (cg a b),a8!]:=by simp[c2]
  rw[ua,Rb];simp only[_E,_B];rw[e2,Rb];exact ih
theorem zkF(h:aH!) (s:Sto):z5V [M!] s=x! b3!:=by
 have h1:=kM h s;have key:∀d:D,yQ [d] s=fi!->(∀z,zP q! [g!,e! 0,z] s=i! (br!,[]))->z5V [d] s=x! b3!:=λd a1 a2=>by
  have st:zy [ai!,ia!,hJ!] [d]=dw! d:=rfl;simp only[z5V,Mof,zcd,st,_v];rw[zn (ρ':=dw! d) (s':=s) (by simp[a1])];rw[zn (ρ':=fm! d cL!) (s':=s) (by rfl)];obtain⟨z',e⟩:=z6z s g! a! v 0 br! a! (by lia) fX!;rw[zn (by rw[z4g,jP,a2,Rb];exact e)];rfl
 exact key _ h1 λz=>qV (by rfl)
end Pg
namespace Pg
open L2 Dd Pm
def nmR:Rl->Str | .nx=>"next" | .le=>"least" | .al=>jd! | .tu=>gi!
theorem zhc(h1:fo ρ s=i! M!)(h2:fv ρ s=x! k)(hk:k∈v):zmu fo fv ρ s=x! (qY! k:Nat):=by simp only[zpj,h1,h2,Rb,uH,_h hk]
theorem z9d(h:aH!) (s:Sto):yb [M!] s=a7! [c! (a9!:Nat),rD c2!]:=by
 have l4:=h.le4;have g1:=z92 s eQ!;exact (hI! (by
  have st:zy [ai!,"at"] [d]=ad! d:=rfl;have gm:um [d] s=x! ip!:=by rw[hd];exact g1
  have i1:zmu q! (bq! um) [g!,a!] s=x! a9!:=zhc (by simp[hd]) (by exact gm ..) (kG! eQ!);simp only[yb,Mof,ut,st,_i,_k,_v];rw[zn (ρ':=[g!,dy!]) (s':=s) (by rw[vP,zR,i1];rfl)];have e2:=z2s br! (a9!+1) s;rw[show ((a9!+1:Nat))=j! a9!+1 from rfl]at e2;simp only[vR,yo,z1L,zr,zK,yh,yH,zaK,qh,z1e,qr,_c,_d,Rb,zbz,hd,(z2k br! a9! s),e2];rw[_h (by decide),Rb,z36,_h (by simp[cap];omega),Rb,e2,Rb,z36,_h (by simp[cap];omega),Rb,Rb,Rb,_h (by simp[cap])];simp[others,_aT]):∀d:D,d=M!->yb [d] s=a7! [c! a9!,rD c2!]) _ rfl
theorem z3s(h:nz v≠[]) (hl:J!<=4) (s:Sto):xo [M!] s=x! (dq!:Nat):=by
 exact (hI! (by
  have st:zy hX! [d]=[g!]:=rfl;have gm:z87 [bJ! (nz v)] s=x! (i0! v):=by
   obtain⟨a,t,e⟩:=List.exists_cons_of_ne_nil h;rw[e];simp only[z87,zW,_M,iL];rw[uH]
  simp only[xo,Mof,z1K,st,z1h,yo];rw[zhc (by simp[hd]) (by rw[yi,zr,(nzC (mp:=[]) (f:=q!) (ρ:=[g!]) (s:=s) (by simp[hd]) hl)];exact gm ..) (r5! h).1];rfl):∀d:D,d=M!->xo [d] s=x! dq!) _ rfl
noncomputable abbrev nL(l:jD!):D!:=ok! (λi=>aK! (ab! i))
theorem zch{v:h!} (p:Nat) (hl:J!<=4) (s:Sto):qp [M!,c! (p:Nat)] s=bA! (nL (vd v p)):=by
 exact (hI! (by
  have st:zy [ai!,qN!] [d,c! p]=[g!,e! p]:=rfl;simp only[qp,Mof,z8H,st,z6P,yo];rw[xK (λi:Nat=>aK! (ab! i)) (λi:Nat=>aK! (ab! i)) (λi=>ci! i p) (λi=>[fn! p,fn! i]) pP! (by
   rw[zeo (n:=v.length) (s1:=s) (by omega) (by simp[hd])];rfl) (λa _=>by rfl) (λa _=>by
   have:a5! (j! a≠ez! p)=ci! a p:=by
    by_cases e:a=p;·simp[e]
    ·have:¬ j! a=ez! p:=by omega
     simp[e,this]
   simp only[jt,yH,yh,_d,_c,Rb,z5r,this]) (λa _ _=>by rfl) (by simp[cap];omega)];rfl):∀d:D,yF [d] s=x! J!->qp [d,c! p] s=bA! (nL (vd v p))) _ (by simp[yF,zW])
noncomputable abbrev z7v(d:Nat×jD!):D:=n! [c! d.1,W! (nL d.2)]
theorem zgI(h:aH!) (s:Sto):jh [M!] s=i! (z7v (gQ! .nx)):=by
 have ne:a1! c2!:=λz=>by
  have:=wQ eQ!;rw[z]at this;exact h.ne (_aX.mp this.symm)
 have g1:=z92 s ne;exact (λd e he hg=>by
  have st:zy [ai!,qO!,qP!] [d]=dw! d:=rfl;have gm:um [e] s=x! hp!:=by rw[he];exact g1
  simp only[jh,Mof,z8Q,st,_v];rw[zn (ρ':=[g!,dy!,l!]) (s':=s) (by simp[hg])];simp only[z7y,yo,z1L,zr,(zhc (by simp[he]) (by exact gm ..) (kG! ne):zmu N! (bN! um 2) [g!,fn! a9!,l!] s=x! ((c2!).idxOf hp!:Nat)),_d];rfl:hL! (e=rD c2!->yb [d] s=a7! [c! a9!,e]->jh [d] s=i! (z7v (gQ! .nx)))) _ _ rfl (z9d h s)
theorem zgf(h:aH!) (he:es!) (s:Sto):uA [M!] s=i! (z7v (gQ! .le)):=by
 have g:=z9d h s;exact (λd e he hg=>by
  have st:zy [ai!,qO!,qP!] [d]=dw! d:=rfl;simp only[uA,Mof,z7o,st,_v];rw[zn (ρ':=[g!,fn! a9!,l!]) (s':=s) (by simp[hg])];simp[he,cap,deal]:hL! (xo [e] s=x! (lp c2!:Nat)->yb [d] s=a7! [c! (a9!:Nat),e]->uA [d] s=i! (z7v (gQ! .le)))) _ _ (z3s (kJ h he) (by rw[wQ eQ!];exact (q3!).1) s) g
theorem zkC(h:aH!) (s:Sto):z0h [M!] s=i! (z7v (gQ! .al)):=by
 have ab:=zch dq! (q3!).1 s;exact (λd h1 h2=>by
  have st:zy [ai!,hh!] [d]=ad! d:=rfl;simp only[z0h,Mof,zcn,st,_v];rw[zn (ρ':=[g!,fn! dq!]) (s':=s) (by simp[h1])];simp[h2,cap,deal]:∀d:D,xo [d] s=x! (dq!:Nat)->qp [d,c! (dq!:Nat)] s=bA! (nL (vd v dq!))->z0h [d] s=i! (z7v (gQ! .al))) _ (z3s q1! (q3!).1 s) ab
theorem zhu(h:aH!) (s:Sto):jm [M!] s=i! (z7v (gQ! .tu)):=by
 have ab:=zch 0 (q3!).1 s;exact (λd h1 h2=>by
  have st:zy hX! [d]=[g!]:=rfl;simp only[jm,Mof,z99,st,_i,_k,_v];by_cases z:fQ!=0;·rw[z0D (d:=z7v (gQ! .tu)) (s':=s) (by
    rw[z]at h1;rw[(show gQ! .tu=(0,[]) from by show (0,aj! fQ! 0 [] (vd v 0))=_;rw[_h z])];simp[h1,cap])]
  ·rw[zn (ρ':=[g!]) (s':=s) (by
    generalize fQ!=y at *;simp[h1,z])];rw[(show gQ! .tu=(0,vd v 0) from by show (0,aj! fQ! 0 [] (vd v 0))=_;rw[_o z])];simp[h2,cap]:∀d:D,c5! d 0 s=x! fQ!->qp [d,cL!] s=bA! (nL (vd v 0))->jm [d] s=i! (z7v (gQ! .tu))) _ (jz (j:=0) s (by have:=(q3!).2;omega)) ab
theorem zhp(r:Rl)(s:Sto):vU [bv!] s=cj!:=by simp[vU,Mof,z8J,zy,ztN,(λr=>by cases r<;>decide:∀r,gl! (z3i.lookup (nmR r))=d!)]
theorem z6L(r:Rl)(s:Sto):uI [bv!] s=fi!:=by simp[uI,Mof,z4X,zy,(zhp r s)]
theorem zbm(r:Rl)(h:aH!)(s:Sto):yd [bv!,M!] s=fi!:=by
 have h1:=z6L r s;exact (λd e a1 a2=>by simp[yd,Mof,qD,zy,a1,a2]:hL! (uI [d] s=fi!->yQ [e] s=fi!->yd [d,e] s=fi!)) _ _ h1 (kM h s)
theorem z7k(r:Rl)(h:aH!)(he:es!)(s:Sto):wM [bv!,M!] s=fi!:=by
 have h2:=z6c h s;rw[he]at h2;exact (λd e a1 a2=>by simp[wM,Mof,z55,zy,a1,a2]:hL! (yd [d,e] s=fi!->xQ [e] s=cg!->wM [d,e] s=fi!)) _ _ (zbm r h s) h2
def dfR:Rl->Str | .nx=>m2! | .le=>m3! | .al=>m4! | .tu=>m5!
noncomputable def MR:Rl->Mir | .nx=>jh | .le=>uA | .al=>z0h | .tu=>jm
theorem zvJ(r:Rl)(h:aH!)(he:es!)(s:Sto):MR r [M!] s=i! (z7v mq!):=by cases r with
 | nx=>exact zgI h s | le=>exact zgf h he s | al=>exact zkC h s | tu=>exact zhu h s
theorem zrV(r:Rl):z3i.lookup (nmR r)=b! (dfR r):=by cases r<;>decide
theorem zwg(r:Rl):jF! ([(m2!,jh),(m3!,uA),(m4!,z0h),(m5!,jm)]:dL! Mir) (dfR r) (MR r):=by
 cases r;·rfl
 ·rfl
 ·rfl
 ·rfl
theorem ztU(i:Nat)(l:jD!)(s:Sto):zd4 t! Y! (W! (nL l)) s=aV! (a5! (i∈l)):=by
 have ev:∀a b:Int,eqV f9! e2!=(a==b):=λ_ _=>U!;have e2:∀l:List Nat,inV Y! (ok! (λj=>V.int (j:Nat)))=a5! (i∈l):=by
  intro l;induction l with
  | nil=>rfl | cons a l ih=>
   simp only[inV,_p,List.any_cons]at ih ⊢;rw[ih];by_cases q:i=a;·subst q;simp[ev]
   ·simp[ev,q,(show ¬ j! a=i from by omega)]
 have pi:∀i:Int,zbG Y!=e! i:=λ_=>U!;simp only[zd4,pi,zW,_M,(show ∀l:List Nat,z2q (nL l)=b! (ok! (λj=>V.int (j:Nat))) from by
  intro l;induction l with
  | nil=>rfl | cons a l ih=>simp[z2q,pi,ih]),e2];rfl
theorem z25(x:D!)(s:Sto):zV [W! x] s=a7! x:=by rfl
theorem z8M(r:Rl) (h:fo!) (he:es!) (hm:m<=hM!) (s:Sto):vK [bv!,M!] s=a7! [c! (aI!:Nat),bJ! dm!]:=by
 have dl:=qw r ei! he;have l4:=h.toLot.le4;have oP:=zvJ r ei! he s;have key:hL! (e=bv!->MR r [d] s=i! (z7v mq!)->yF [d] s=x! J!->(∀i,fp!->c5! d (i:Nat) s=x! b1!)->vK [e,d] s=a7! [c! aI!,bJ! dm!]):=λd e d9 h1 h2 h3=>by
  have st:zy [cv!,ai!,"deal",hh!,"divided"] [e,d]=jM! l! g!:=rfl;simp only[vK,Mof,z7Y,st,_i,_k,_v];rw[zn (ρ':=[l!,g!,b! (.fn (dfR r)),a!,a!]) (s':=s) (by simp[d9,(zrV r)])];rw[zn (ρ':=[l!,g!,b! (.fn (dfR r)),fn! aI!,bg! (nL (mq!).2)]) (s':=s) (by
   rw[z4S,zcx,zkE];simp only[_c,_d];rw[(zwg r)];simp only[zr,zK,yh,_c,_d,Rb,h1,z9y,_E,_B])];have ir:jW (aU! (hR! 1)) [l!,g!,b! (.fn (dfR r)),e! aI!,bg! (nL (mq!).2)] s=i! (aP! J! (λi=>aK! (i:Nat)),[]):=by
   rw[zeo (n:=v.length) (s1:=s) (by lia) (by simp[h2])];rfl
  have c:=comp_map (mp:=fl! 4 1 3) (fg:=yg 3) (fe:=eIf (eT! (zd4 t!) be! q!) (eOp z3Y (bl! 3) (bl! 2)) B!) (λi:Nat=>aK! (i:Nat)) (λi:Nat=>aK! (al! (i∈(mq!).2) (b1! / bt! aI!) 0)) (λi=>[bg! (nL (mq!).2),g!,e! aI!,e! i]) pP! ir (λa _=>by rfl) (fb! (by
    have i1:=ztU i (mq!).2 s;simp only[zqR,jt,yH,yh,qr,_c,_d,Rb,i1,(h3 i (by simpa using hi)),(h3 _ q2!)];by_cases q:i∈(mq!).2
    ·simp only[q,_c7,_v];rw[zak,bP! (by
      rcases dl.pos with z | z;·rw[z]at q;cases q
      ·exact z) (_j (h.abs _ (q4! q2!)) (_A (by decide) (by lia)))]
    ·simp only[q,_cw,_aU];rfl)) (by simp[cap];lia);simp only[z53,yo,z1L,zr,c,Rb,zK,yh,_c,_d];rw[_h (by simp[cap])];simp[yX,_L]
 exact key _ _ rfl oP (by simp[yF,zW]) (fb! (jz s hi))
theorem eq_str(ha:PyData.strOk a=d!)(hb:PyData.strOk b=d!)(s:Sto):dEq (aq! a) (aq! b) s=aV! (a==b):=by simp[dEq,zjp,eqD,zvy,PyData.eqv,SeqAt.shaped,PyData.canLay0,PyData.depth,ha,hb]
theorem zim(r:Rl):PyData.strOk (nmR r)=d!:=by cases r<;>decide +kernel
theorem ziD(r:Rl)(s:Sto):dEq bv! (aq! gi!) s=aV! (fh! r .tu):=by
 rw[eq_str (zim r) (by decide +kernel)];congr 2;cases r<;>decide +kernel
theorem zhT(r:Rl)(xs:D!)(hl:w!<=4)(s:Sto):z03 [bv!,ap!] s=a7! (ha! xs):=by
 have e1:=z2k xs 1 s;have e2:=z2s xs 1 s;have cp:v! (li! 1)+v! (nb! 1)<=cap:=by simp[cap];lia
 exact (q5! (by
  have st:zy [cv!,kH!] [d,e]=hv!:=rfl;simp only[z03,Mof,zfi,st,zbJ,yo,zqR,(show tOf (ej! dEq 0 (bG! gi!)) hv! s=i! (fh! r .tu) from by simp only[jt,yH,yh,qr,_c,Rb,hd,ziD]),Rb];by_cases q:r=.tu
  ·subst q;simp only[yH,zaK,yh,qh,z1e,qr,_c,_d,Rb,he];rw[show j! 1=ez! 1 from rfl,e2,Rb,e1,Rb,z36,_h cp];rfl
  ·simp only[q,_cw];rw[z90 q];simp[he]):hL! (d=bv!->e=ap!->z03 [d,e] s=a7! (ha! xs))) _ _ rfl rfl
theorem zao{α β:b4!}(f:α->D)(g:β->D):∀(l:List α)(k:List β),z4I mU! (k.map g)=(l.zip k).map (iT! [f p.1,g p.2])
 | [],_=>by rfl | _::_,[]=>by rfl | a::l,b::k=>by simp[z4I,zao f g l k]
theorem ziT(r:Rl)(f:α->β)(xs:eX!):ha! (nX! f)=(ha! xs).map f:=by unfold mvd rot;split<;>simp[_aT]
theorem LotB.q(r:Rl)(h:fo!)(he:es!):Qs v aI! dm!:=zfV fX! (qw r ei! he)
theorem zpr(r:Rl)(h:fo!)(he:es!):∀q∈dm!,0<=q/\q<2 ^ m:=λq hq=>by
 have Q:=h.q r he;refine⟨Q.nn q hq,?_⟩;obtain⟨i,hi,rfl⟩:=gM! hq;simp only[yX,_dr,List.getElem_range];have b:=h.bd _ (q4! (by rw[<- Q.len];exact hi));have n0:=uz fX! i;split
 ·have:=_du (bt! aI!) n0;lia
 ·lia
theorem zqd{n m:Nat} {v:h!} (r:Rl) (h:fo!) (he:es!) (hm:m<=hM!) (s:Sto):M_step [bv!,M!] s=i! (rD dA!):=by
 have l4:=h.toLot.le4;have w:=z7k r ei! he s;have dl:=qw r ei! he;have ix := jz s q2!;have mo:=zhT r (iL (cG! dm! aI!)) (by simp[uU (h.q r he).len];lia) s;have key:hL! (e=M!->wM [d,e] s=fi!->vK [d,e] s=a7! [c! aI!,bJ! dm!]->z03 [d,n! (iL (cG! dm! aI!))] s=a7! (ha! (iL (cG! dm! aI!)))-> M_step [d,e] s=i! (rD dA!)):=λd e hd h1 h2 h3=>by
  have st:zy [cv!,ai!,hh!,lB!,"left"] [d,e]=jM! g! l!:=rfl;have oQ:c5! e aI! s=x! (bt! aI!):=by rw[hd];exact ix
  simp only[M_step,Mof,zi8,st,_v];rw[zn (ρ':=jM! g! l!) (s':=s) (by simp[h1]),zn (ρ':=[g!,l!,e! aI!,b! (bJ! dm!),a!]) (s':=s) (by simp[h2])];have ir:z54 (hP! 1 3) [g!,l!,e! aI!,b! (bJ! dm!),a!] s=i! ((v.zip dm!).map (iT! (cU! p.1 p.2)),[]):=by simp only[zht,zr,zK,yh,_c,_d,Rb,hd,z94,zao,_aK]
  have c:=comp_map (mp:=fd! 1 2 a!) (fg:=yT 2 3) (fe:=ks! 2 (fK! 3 (ce! 0 1))) (pB! (gN! (cU! p.1 p.2))) (pB! (aK! (p.1-p.2*bt! aI!))) (λp=>[l!,e! aI!,e! p.1,e! p.2]) _ ir (λp _=>by rfl) (bs! (by
    have hq:=zpr r h he p.2 (l2!).2;have ab:bE! p.2<2 ^ m:=by
     have:j! (bE! p.2)<ab! (2 ^ m):=by rw[(_bA hq.1)];exact hq.2
     lia
    simp only[yH,yh,_c,_d,Rb,oQ,(z0y s ab (by lia) (h.abs _ (q4! q2!)) (by lia)),zln])) (by simp[cap];lia);rw[(show (v.zip dm!).map (pB! (aK! (p.1-p.2*bt! aI!)))=iL (cG! dm! aI!) from by
   unfold left;show _=List.map rK! _;rw[List.zip,_bi,_bi])]at c;rw[zn (ρ':=[g!,l!,e! aI!,b! (bJ! dm!),b! (n! (iL (cG! dm! aI!)))]) (s':=s) (by
   rw[zfm,zR,yi,zr,c];rfl)];simp only[zeJ,yo,yi,zr,zK,yh,_c,_d,Rb,h3];rw[ziT];rfl
 exact key _ _ rfl w (z8M r h he hm s) mo
theorem yI{M:Mir} (h:ay!=i! x):zg M (aU! f) ρ s=M [x] s:=by simp only[yi,zr,zK,h,Rb]
theorem call2{M:Mir} (h:ay!=i! x)(h2:g ρ s=i! y):zg M (cd! f g) ρ s=M [x,y] s:=by simp only[yi,zr,zK,h,h2,Rb]
theorem zfW{M:Mir} (h:ay!=i! x)(h2:g ρ s=i! y)(h3:k ρ s=i! z):zg M (zb f (cd! g k)) ρ s=M [x,y,z] s:=by simp only[yi,zr,zK,h,h2,h3,Rb]
theorem op2(h:ay!=i! x)(h2:g ρ s=i! y):eOp o f g ρ s=o x y s:=by simp only[yH,h,h2,Rb]
theorem z3y{n:Nat} (hn:n<=4) (s:Sto):xV [c! n] s=g4! b0!:=by
 have st:zy [me!,lA!] [c! n]=[aC!,a!]:=rfl;simp only[xV,Mof,z1X,st,_v];rw[zn (ρ':=[aC!,bg! (yt n)]) (by
  simp only[z1a,zR,zpv,zr,zK,yh,_c,Rb,_h (show j! 0<=n/\j! n<=fv! from by lia),_T];rfl)];simp only[z0Z,yo];rw[yi,zr,(comp_map (fi:=zP r!) (mp:=cb!) (fg:=yg 1) (fe:=dj! cW! cb! 1 (eIf (e9! q! r!) ae! B!)) (ρ:=[aC!,bg! (yt n)]) (fD! (j! k)) (λi:Nat=>rD (aP! n (λj=>aj! i j 1 0))) (λi=>[bg! (yt n),e! (ab! i)]) iO! (jA (by rfl)) (λa _=>by rfl) (λi _=>by
   rw[yi,zr,(λi=>by
  rw[comp_map (fD! (j! k)) (λj:Nat=>aK! (aj! i j 1 0)) (λj=>[e! i,e! (ab! j)]) iO! (jA (by rfl)) (λa _=>by rfl) (λj _=>by
   by_cases q:i=j;·subst q;simp
   ·have:¬ j! i=j:=by lia
    simp[q,this]) (by simp[cap];lia)];simp[_L]:∀i:Nat,zv cW! cb! (yg 1) zU (eIf (e9! q! r!) ae! B!) [bg! (yt n),e! (ab! i)] s=i! (bJ! (aP! n (λj=>aj! i j 1 0)))) i];rfl) (by simp[cap];lia))];simp only[Rb,zK,z25];simp[one,_L]
theorem z7G(h:zW s x=b! (xs++[d])):c5! x (-1) s=i! d:=by
 simp only[dIx,h,atI,(show ixN (v! (xs++[d])) (-1)=b! w! from by
  unfold ixN;simp;lia),_M];simp
theorem zky(xs:D!)(d:D):Dd.cutD (xs++[d]) a! (b! (-1))=xs:=by
 unfold Dd.cutD;rw[(show n8! (v! (xs++[d])) (v! (xs++[d])) (b! (-1))=w! from by
  unfold HT.sIx;simp;lia)];simp[HT.sIx]
theorem zcy{n m:Nat} {v:h!} (r:Rl) (h:fo!) (he:es!) (hm:m<=hM!) (s:Sto):vH [bv!,M!] s=g4! fR!:=by
 have l4:=h.toLot.le4;have w:=z7k r ei! he s;have dv:=z8M r h he hm s;have dl:=qw r ei! he;have oR:=z3y l4.1 s;have mo := λxs hx=>zhT r xs hx s;have key:hL! (yF [e] s=x! J!->wM [d,e] s=fi!->vK [d,e] s=a7! [c! aI!,bJ! dm!]->(∀xs:List D,w!<=4->z03 [d,ap!] s=a7! (ha! xs))-> vH [d,e] s=g4! fR!):=λd e h0 h1 h2 h3=>by
  have st:zy [cv!,ai!,hh!,lB!] [d,e]=fd! d e a!:=rfl;simp only[vH,Mof,z3j,st,_i,_k,_v];rw[zn (ρ':=fd! d e a!) (s':=s) (by simp[h1]),zn (ρ':=[g!,l!,e! aI!,b! (bJ! dm!)]) (s':=s) (by simp[h2])];have ir:z54 (ib! (aG! xV (hR! 1)) 3) [g!,l!,e! aI!,b! (bJ! dm!)] s=i! (((one J!).zip dm!).map (iT! [rD p.1,c! p.2]),[]):=by simp only[zht,zr,zK,yh,yi,_c,_d,Rb,h0,oR,z94,zao,_aK]
  have c:=comp_map (mp:=fd! 0 2 a!) (fg:=yT 2 3) (fe:=dx! z03 (bc! (bc! (gc! N! r!) (vG (aU! (bc! (ce! 2 1) be!)))) (e4! N! (f7! 1)))) (λp:List Int×Int=>gN! [rD p.1,c! p.2]) (λp:List Int×Int=>rD (ha! (xq aI! p.1 p.2))) (λp=>[g!,e! aI!,bu! p.1,e! p.2]) _ ir (λp _=>by rfl) (bs! (by
    have hl := (zaI J!).row p.1 (l2!).1;have hb:aI!<v! p.1:=by rw[hl];exact dl.lt
    have e1:=z2k (iL p.1) aI! s;have e2:=z2s (iL p.1) (aI!+1) s;have e3:=jz (j:=aI!) s hb;generalize aI!=b at *;have f1:eSl N! zE (yD r!) [g!,fn! b,bu! p.1,e! p.2] s=a7! ((iL p.1).take b):=by exact e1
    have f2:eSl N! (yD (f7! 1)) zE [g!,e! (j! b),bu! p.1,e! p.2] s=a7! ((iL p.1).drop (b+1)):=by exact e2
    have f3:vG (aU! (bc! (ce! 2 1) be!)) [g!,e! (j! b),bu! p.1,e! p.2] s=a7! [c! (p.1.getD b 0+p.2)]:=by
     simp only[z1L,zr,zK,yH,yh,_c,_d,Rb,e3,zbz];rw[_h (by simp[cap])]
    rw[call2 (x:=d) (by rfl) (show eOp xh (bc! (gc! N! r!) (vG (aU! (bc! (ce! 2 1) be!)))) (e4! N! (f7! 1)) [g!,a8!,bu! p.1,e! p.2] s=a7! (iL (xq b p.1 p.2)) from by
     rw[yH,yH,f1,Rb,f3,Rb,z36,_h (by simp[cap];lia),Rb,f2,Rb,z36,_h (by simp[cap];lia)];simp[xq,_ci,_aT]),h3 _ (by simp[xq];lia),ziT])) (by simp[cap,one];lia);simp only[z2c,yo];rw[yi,zr,c];simp only[Rb,zK,z25];unfold kA z7Z;rw[xl];simp only[tD];rw[_bi,List.zip,_bi]
 exact key _ _ (by simp[yF,zW]) w dv mo
theorem _root_.Pg.LotB.step{n m:Nat}{v:h!}(r:Rl)(h:fo!)(he:es!):oD! m dA!:=by
 refine⟨h.toLot.step r he,ah! ?_⟩;have:=zrB (B:=2 ^ m-1) r h.toLot he (cs! (by have:=h.bd y hy;lia)) x hx;lia
theorem zjV(hd:d=bv!) (hm:m<=hM!) (s:Sto) (Rn:gf! c):∀(pre:List (List Int)),oD! m c->pre.length+pz!<=50000-> vw (fg! (aG! xQ (db! 2 d5!))) z9Q (pz!+1) [g!,l!,Q!] (s++[ed! [c]])=K! [g!,l!,Q!] (s++[ed! ls]):=by
 have cY:∀(pre:List (List Int)) (c:List Int),oD! m c->jJ (tOf (aG! xQ (db! 2 d5!))) [g!,l!,Q!] (s++[ed! [c]])=.ok (! ended c) (s++[ed! [c]]):=λpre c h=>by
  simp only[jR,jt,yi,zr,zK,yH,yh,zh1,qr,_c,_d,Rb];rw[(z7G (x:=mo!) (d:=rD c) (xs:=pre.map rD) (s:=s++[ed! [c]]) (by simp[zW]))];simp only[Rb];rw[(z6c ei! (s++[ed! [c]]))];rfl
 induction Rn with
 | @done v hend=>
  intro pre h hl;rw[vw,cY pre v h,hend];rfl | @step v ls hend Rn ih=>
  intro pre h hl;rw[_i,vw,cY pre v h,hend,Rb];have cj:=zqd r h hend hm (s++[ed! [v]]);rw[<- hd]at cj;have ix:=z7G (x:=mo!) (d:=M!) (xs:=pre.map rD) (s:=s++[ed! [v]]) (by simp[zW]);have body:z9Q [g!,l!,Q!] (s++[ed! [v]])=K! [g!,l!,Q!] (s++[eB! (pre++[v]++[dA!])]):=by
   have bn:(s++[ed! [v]]).set ct! (ed! [v]++[rD dA!])=s++[eB! (pre++[v]++[dA!])]:=by simp
   simp only[z9Q,z1o,z9o,yi,zr,zK,yH,yh,zh1,qr,_c,_d,Rb];rw[ix];simp only[Rb];rw[cj];simp only[Rb];rw[(show G! (s++[ed! [v]]) ct! (ed! [v]) from by simp)];simp only;rw[bP! (yR _) (by simp[cap]at hl ⊢;lia),bn];rfl
  rw[body,Rb];simp only;rw[(ih (pre++[v]) (o8! hend) (by simp at hl ⊢;lia))];simp
theorem zst(r:Rl) (h:fo!) (Rn:gf! v) (hm:m<=hM!) (hl:o6!) (s:Sto):zjw [bv!,M!] s=g3! (s++[cS!]):=by
 have w:=zbm r ei! s;have key:hL! (d=bv!->e=M!->zjw [d,e] s=g3! (s++[cS!])):=q5! (by
  have st:zy [cv!,ai!,"lots"] [d,e]=fm! d e:=rfl;simp only[zjw,Mof,zmd,st,_v];rw[zn (ρ':=fm! d e) (s':=s) (by simp[(show yd [d,e] s=fi! from by rw[hd,he];exact w)])];rw[zn (by
   simp only[zdN,zR,z9j,zr,zK,yh,_d,_c,Rb];rw[bP! (by simp[cap]) (by simp[flC,flN,(show e.flat=d! from by rw[he];exact (yR _))])];rfl)];have lp:=zjV (e:=e) hd hm s Rn [] h (by simpa using hl);rw[_ar]at lp;rw[show eB! [v]=[e] from by rw[he];rfl]at lp;rw[zn (by exact z3m lp (by simp))];rfl)
 exact key _ _ rfl rfl
theorem zjd(h:fo!)(Rn:gf! v):∀a∈ls.dropLast,oD! m a/\ended a=t!:=by induction Rn with
 | done e=>simp | step e R2 ih=>
  intro a ha;rw[List.dropLast_cons_of_ne_nil R2.ne]at ha;rcases dE! ha with rfl | ha;·exact dv! h
  ·exact ih (o8! e) a ha
theorem znH{n m:Nat}{B:Int}{P:Tb}{c x:h!}(I:PI n B P c x)(hB:B<2 ^ m):Bd m P:=λrow hr y hy=>by
 have:=I.nn row hr y hy;have:y.natAbs<ab! (2 ^ m):=by rw[(show ab! (2 ^ m)=2 ^ m from by rfl)];lia
 lia
theorem zia{n m:Nat}{v:h!}(r:Rl)(h:fo!)(he:es!):Bd m fR!:=λrow hr y hy=>by
 have:=zo8 (B:=2 ^ m-1) r h.toLot he (cs! (by have:=h.bd y hy;lia)) row hr y hy;have e2:ab! (2 ^ m)=2 ^ m:=by rfl
 lia
def z47:Tb->ee! Tb->ee! Tb
 | P,[]=>[P] | P,T::ts=>P::z47 (kr P T) ts
theorem z8R:∀(ts:List Tb)(P:Tb),(z47 P ts).getLast? = b! (ts.foldl kr P)
 | [],P=>rfl | T::ts,P=>by rw[z47,List.getLast?_cons,z8R ts];rfl
theorem z9c(T:Tb):(tD T).flat=d!:=by
 show dc! nz!;induction T with
 | nil=>rfl | cons r T ih=>simp only[_p,flC,flN,ih,Bool.and_true];exact yR r
theorem z6R(d t:D) (hn:ba!) (hB:B<2 ^ m) (hm:m<=hM!) (hx:∀y∈x,y<=B) (s:Sto) (Rn:gf! c):∀(P:Tb) (pre:List Tb) (all:List D) (z:Option D),oD! m c->PI n B P c x->pre.length+pz!<=50000-> ∃z',yU [] all (eA! (yg 3 d ρ s) (xu ρ' s')) fj! [g!,b! t,Q!,z] (s++[f1! (pre++[P])])=K! [g!,b! t,Q!,z'] (s++[f1! (pre++z47 P jA!)]):=by induction Rn with
 | done he=>exact λP pre all z h I hl=>⟨z,by simp[zN,yU,okG,z47]⟩ | @step v ls he R2 ih=>
  intro P pre all z h I hl;have mm:=zbh (s++[f1! (pre++[P])]) hn I.tab (z1y r ei! he) (znH I hB) (zia r h he) (by lia) (by lia);obtain⟨z',ih⟩:=ih (kr P fR!) (pre++[P]) all kt! (o8! he) (I.step r hx ei! he) (by simp at hl ⊢;lia);have ix:=z7G (x:=mo!) (d:=tD P) (xs:=pre.map tD) (s:=s++[f1! (pre++[P])]) (by simp[zW]);have body:xu [g!,b! t,Q!,kt!] (s++[f1! (pre++[P])])=K! [g!,b! t,Q!,kt!] (s++[f1! (pre++[P]++[kr P fR!])]):=by
   have gt:G! (s++[f1! (pre++[P])]) ct! (f1! (pre++[P])):=by simp
   have bn:(s++[f1! (pre++[P])]).set ct! (f1! (pre++[P])++[tD (kr P fR!)])=s++[f1! (pre++[P]++[kr P fR!])]:=by simp
   have fl:=z9c (kr P fR!);generalize (s++[f1! (pre++[P])])=S at *;have cc:zg vF (ib! (db! 2 d5!) 3) [g!,b! t,Q!,kt!] S=.ok (tD (kr P fR!)) S:=by
    rw[call2 (by exact ix) (y:=tD fR!) (by rfl)];exact mm
   rw[xu,z1o,z9o];simp only[yh,_c,_d,Rb];rw[cc];simp only[Rb];rw[gt];simp only;rw[bP! fl (by simp[cap]at hl ⊢;lia),bn];rfl
  rw[R2.tabs_cons,_p,yU,_h (by intro p hp;cases hp),ua,Rb];simp only[_E,_B];rw[body,Rb];simp only;rw[ih,z47];simp
theorem zhS(r:Rl) (h:fo!) (Rn:gf! v) (hm:m<=hM!) (hl:o6!) (s:Sto):ww [c! n,W! fj!] s=g3! (s++[f1! (z47 b0! jA!)]):=by
 have key:∀d t:D,d=c! n->t=W! fj!->ww [d,t] s=g3! (s++[f1! (z47 b0! jA!)]):=λd t hd ht=>by
  have st:zy [me!,no!,"products",eu!] [d,t]=fd! d t a!:=rfl;simp only[ww,Mof,jk,st,_v];rw[zn (ρ':=fd! d t Q!) (s':=s++[[tD b0!]]) (by
   have c2:zg xV (b6! 0) (fd! d t a!) s=g4! b0!:=by rw[hd];exact (z3y (n:=n) (by have:=h.sz;lia) s)
   rw[vb,zR,z9j,zr,c2];simp only[Rb,zK];rw[bP! (by simp[cap]) (by simp[flC,flN,(z9c b0!)])];rfl)];obtain⟨z',lp⟩:=z6R d t h.sz (B:=2 ^ m-1) (by lia) hm (cs! (by have:=h.bd y hy;lia)) s Rn b0! [] fj! none h (PI.start ei! (cs! (by have:=h.bd y hy;lia))) (by simpa using hl);rw[zn (by
   rw[wZ,jP,jA (xs:=fj!) (by simp[ht])];exact lp)];rfl
 exact key _ _ rfl rfl
theorem ziV{i:Int}(h0:0<=i)(h:i<2 ^ bF!):eL!<BIG:=by exact Int.ofNat_lt.mp (_cN (by rw[(_bA h0)];exact h) (by decide +kernel))
theorem z1q(s:Sto)(ha:0<=a)(gv:a<2 ^ bF!)(hb:0<=b)(iR:b<2 ^ bF!):yC f9! e2! s=x! (a*b):=by rw[zgN,bP! (ziV ha gv) (ziV hb iR)]
theorem zhI(s:Sto)(hb:0<b)(iR:b<2 ^ bF!):z3Y f9! e2! s=x! (a / b):=by rw[zak,bP! hb (ziV (by lia) iR)]
theorem zpK(ns:h!)(k:Nat)(s:Sto):∃c,ve [e1!,c! k] s=x! c:=by
 by_cases h:k<fA!
 ·have hk:k<fA!:=by omega
  have e:ixN (v! (iL ns)) k=b! k:=by
   unfold ixN;rw[_h (by omega),_h (by simpa using hk)];rfl
  simp[ve,Mof,jg,zy,yF,zW,hk,(show c5! e1! k s=x! (ns[k]) from by
   simp only[dIx,zW,atI,e,_M];simp[h])]
 ·exact⟨0,by simp[ve,Mof,jg,zy,yF,zW,(by omega)]⟩
def Pot(s:Sto)(l:Nat):k!:=∃p:Int,G! s l [c! p]
theorem Pot.lt(h:Pot s l):l<ct!:=by
 obtain⟨p,e⟩:=h;exact cV! e
theorem Pot.app(h:Pot s l)(t:Sto):Pot (s++t) l:=by
 obtain⟨p,e⟩:=h;exact⟨p,by rw[_F (cV! e)];exact e⟩
structure vc(s s':Sto)(l:Nat):k! where
 pot:Pot s' l
 len:s'.length=ct!
 oth:∀m,m≠l->s'[m]? = s[m]?
theorem zrb(h:Pot s l)(h0:0<far)(h1:far<2 ^ bF!):∃r s',zC [dP!,c! far] s=bj! (c! r)/\0<=r/\r<far/\vc s s' l:=by
 obtain⟨p,e⟩:=h;refine⟨p % far,s.set l [c! (p / far)],?_,_a9 _ (by lia),_bn _ h0,⟨p / far,by rw[_ai (cV! e)]⟩,by simp,λm hm=>_ac (_bN hm)⟩;simp[zC,Mof,z4U,zy,(show c5! dP! 0 s=x! p from by simp[dIx,zW,e,atI,ixN]),z6I s h0,zhI s h0 h1,e,ixN,z33,List.replicate]
theorem zpV(s:Sto):zeL (c! 10) (c! 18) s=x! 1000000000000000000:=by rfl
theorem zvD(s:Sto):zeL (c! 10) (c! 6) s=x! 1000000:=by rw[zmk];rfl
theorem pow_step(h:m<2147483648 ^ j)(hr:r<mg!):m*mg!+r<2147483648 ^ (j+1):=by lia
theorem zqV{m j:Nat}(h:m<2147483648 ^ j)(hj:j<=64):j! m<2 ^ bF!:=by
 have h2:2147483648 ^ 64<=2 ^ bF!:=by decide +kernel
 exact Int.ofNat_lt.mpr (_j h (_Z (_A (by decide) hj) h2))
theorem ztL(c:Int) (s:Sto):∃p:Int,kK [c! c] s=g3! (s++[[c! p]]):=by
 by_cases h:1000000000000000000<=c;·exact⟨c-1000000000000000000,by simp[kK,Mof,z2o,zy,zpV,h,flC,flN,z33,cap,List.replicate]⟩
 ·have lp:∃ ρ' s',z4O [e! c,e! 0,a!,a!] s=K! ρ' s'/\∃(m:Nat) (a b:Option D),ρ'=[e! c,e! m,a,b]/\s'=s:=by
   obtain⟨ρ',s',e,m,a,b,e1,e2,_⟩:=z1F (body:=eA! (yg 2 d ρ s) ((a3! z4P z4C z4T) ρ' s')) (λj ρ s'=>∃(m:Nat) (a b:Option D),ρ=[e! c,e! m,a,b]/\s'=s/\m<2147483648 ^ j) (yt 64) 0 (λj x hx ρ s' hi=>by
    obtain⟨m,a,b,rfl,rfl,hm⟩:=hi;obtain⟨hj,rfl⟩:=z3r hx;rw[_aq]at hm;have a1:zeK (c! c) (c! pu!) s'=bj! (c! (c % pu!)):=z6I s' (by decide);have a2:yC (c! 7919) (c! j) s'=bj! (c! (7919*j)):=z1q s' (by decide) (by decide +kernel) (by lia) (by lia);have a3:yC (c! (c % pu!+7919*j+1)) (c! 48271) s'=bj! (c! ((c % pu!+7919*j+1)*48271)):=z1q s' (by lia) (by lia) (by decide) (by decide +kernel);generalize iB:(c % pu!+7919*j+1)*48271 % 2147483647=x1;have b0:0<=x1:=by rw[<- iB];exact _a9 _ (by decide)
    have a4:zeK (c! ((c % pu!+7919*j+1)*48271)) (c! 2147483647) s'=bj! (c! x1):=by rw[<- iB];exact z6I s' (by decide)
    have a6:yC (c! 69621) (c! j) s'=bj! (c! (69621*j)):=z1q s' (by decide) (by decide +kernel) (by lia) (by lia);generalize gD:(x1*x1+69621*j+7) % mg!=x2;have a7:zeK (c! (x1*x1+69621*j+7)) (c! mg!) s'=bj! (c! x2):=by rw[<- gD];exact z6I s' (by decide)
    have a8:yC (c! m) (c! mg!) s'=bj! (c! (m*mg!)):=z1q s' (by lia) (zqV hm (by lia)) (by decide) (by decide +kernel);obtain⟨y,rfl⟩:=Int.eq_ofNat_of_zero_le (show 0<=x2 from by rw[<- gD];exact _a9 _ (by decide));refine⟨[e! c,fn! (m*mg!+y),aY!,e! y],s',?_,m*mg!+y,_,_,rfl,rfl,?_⟩;·simp[a1,a2,a3,a4,(z1q s' b0 (by lia) b0 (by lia)),a6,a7,a8]
    ·rw[_aq];exact pow_step hm (by lia)) [e! c,e! 0,a!,a!] s ⟨0,a!,a!,rfl,rfl,by decide⟩;exact⟨ρ',s',by exact e,m,a,b,e1,e2⟩
  obtain⟨ρ',s',e,m,a,b,rfl,rfl⟩:=lp;have st:zy ["_law_cell",cw!,"_law_j",oq!] [c! c]=[e! c,a!,a!,a!]:=rfl;simp only[kK,Mof,z2o,st,_i,_k,_v];rw[zn (ρ':=[e! c,a!,a!,a!]) (s':=s') (by simp[zpV,h]),zn (ρ':=[e! c,e! 0,a!,a!]) (s':=s') (by rfl),zn e];simp[flC,flN,z33,cap]
theorem zbS{α:b4!} (hg:okG gd all s)(g f:α->D):∀(l:List α)(acc:List D),(∀a∈l,body (g a) s=i! (b! (f a)))->h9!+iL!<=cap->qu gd all dF! kg! acc s=i! (acc++mU!)
 | [],acc,_,_=>by simp[qu,hg] | x::xs,acc,hb,hl=>by
  have ih:=zbS hg g f xs (acc++[f x]) (cs! (hb y (by simp[hy]))) (by simp at hl ⊢;lia);have hc:h9!<cap:=by simp at hl;lia
  rw[_p,qu,_h hg,hb x (by simp)];simp[hc,ih]
structure LS(s0:Sto)(l:Nat)(s:Sto)(xs:h!):k! where
 pot:Pot s l
 len:ct!=kJ!+1
 at_:G! s kJ! (iL xs)
 oth:∀m,m≠l->m<kJ!->s[m]? = s0[m]?
theorem LS.drawn(h:LS s0 l s xs)(hl:l<kJ!)(d:vc s s' l):LS s0 l s' xs:= ⟨d.pot,by rw[d.len,h.len],by rw[d.oth _ (by lia)];exact h.at_,λm h1 h2=>by rw[d.oth m h1];exact h.oth m h1 h2⟩
theorem LS.set(h:LS s0 l s xs)(hl:l<kJ!)(ys:h!):LS s0 l (s.set kJ! (iL ys)) ys:=by
 refine⟨?_,by simp[h.len],_ai (by rw[h.len];lia),λm h1 h2=>?_⟩
 ·obtain⟨p,e⟩:=h.pot;exact⟨p,by rw[_ac (by lia)];exact e⟩
 ·rw[_ac (by lia)];exact h.oth m h1 h2
theorem LS.fin(h:LS s0 l s xs)(hl:l<kJ!):vc s0 (s.take kJ!) l:=by
 obtain⟨p,e⟩:=h.pot;refine⟨⟨p,by rw[_am hl];exact e⟩,by simp[h.len],λm h1=>?_⟩;by_cases h2:m<kJ!;·rw[_am h2];exact h.oth m h1 h2
 ·rw[_K (by simp[h.len];lia),_K (by lia)]
theorem LS.start(d:vc s0 s l)(h:Pot s0 l)(xs:h!):LS s0 l (s++bK! xs) xs:= ⟨d.pot.app _,by simp[d.len],by rw[<- d.len];simp,λm h1 h2=>by rw[_F (by rw[d.len];exact h2)];exact d.oth m h1⟩
theorem vc.refl(h:Pot s l):vc s s l:=aB! h (λ_ _=>rfl)
theorem vc.trans(a:vc s s1 l)(b:vc s1 s2 l):vc s s2 l:=⟨b.pot,by rw[b.len,a.len],λm h=>by rw[b.oth m h,a.oth m h]⟩
theorem vJ(h:Pot s l)(h0:0<far)(h1:far<2 ^ bF!)(hf:ay!=i! dP!)(hg:g ρ s=x! far):∃r s',zg zC (cd! f g) ρ s=bj! (c! r)/\0<=r/\r<far/\vc s s' l:=by
 obtain⟨r,s',e,a,b,c⟩:=zrb h h0 h1;exact⟨r,s',by rw[call2 hf hg,e],a,b,c⟩
theorem zpu(s:Sto):zeL (c! 10) (c! 30) s=x! fB!:=by rw[zmk];rfl
theorem wT(h0:0<=i)(h:G! xs kD! d):c5! bH! i s=i! d:=by
 have hj := cV! h;simp only[dIx,zW,atI,(show kP! i=b! kD! from by
  unfold ixN;rw[_h h0,_h (by lia)]),_M,h]
theorem zbg(hl:G! s l xs)(h0:0<=i)(h:G! xs kD! d):c5! dP! i s=i! d:=by
 have hj := cV! h;simp only[dIx,zW,hl,atI,(show kP! i=b! kD! from by
  unfold ixN;rw[_h h0,_h (by lia)]),_M,h]
theorem zmp(ha:gF! s=i! (.loc L))(hb:fb ρ s=bp! (c! x))(at_:G! s2 L (iL xs))(hl:w!<fv!):wy (zdB fa fb) ρ s=K! ρ (og! L (iL (xs++[x]))):=by
 rw[z1o,z9o,ha,Rb];simp only;rw[hb,Rb];simp only[at_];rw[bP! (z33 x) (by simp[cap];lia)];simp
theorem z6j{i x:Int}(hc:fc ρ s=P! (c! x))(ha:gF! s1=P! (.loc L))(hb:gb!=bp! Y!)(at_:G! s2 L (iL xs))(h0:0<=i)(h1:i<w!):z1g fa fb fc ρ s=K! ρ (og! L (iL (iB! kD! x))):=by
 rw[zir,hc,Rb,ha,Rb,hb,Rb];simp only[at_,(show ixN (v! (iL xs)) i=b! kD! from by
  unfold ixN;rw[_h h0,_h (by simp;lia)]),z33,_v,_bb]
theorem zj9{xs:h!} (h:∀y∈xs,0<=y/\y<=B)(hx:0<=x/\x<=B):∀y∈iB! i x,0<=y/\y<=B:=cs! (by
 rcases _z hy with h2 | h2;·exact h y h2
 ·rw[h2];exact hx)
theorem znU(s:Sto)(h0:0<=r)(h1:r<6):∃far:Int,c5! (W! [c! 13,c! fv!,c! 1000000,c! fB!,c! 3,c! 60]) r s=x! far/\3<=far/\far<=fB!:=by
 have:r=0\/r=1\/r=2\/r=3\/r=4\/r=5:=by lia
 rcases this with rfl | rfl | rfl | rfl | rfl | rfl;·exact⟨13,kv! (by decide),by decide,by decide⟩
 ·exact⟨fv!,kv! (by decide),by decide,by decide⟩
 ·exact⟨1000000,kv! (by decide),by decide,by decide⟩
 ·exact⟨fB!,kv! (by decide),by decide,by decide⟩
 ·exact⟨3,kv! (by decide),by decide,by decide⟩
 ·exact⟨60,kv! (by decide),by decide,by decide⟩
theorem bB:j! fB!<2 ^ bF!:=by decide +kernel
theorem kO{x:Int}(h:dn! x):x<2 ^ bF!:=_bo h (by decide +kernel)
theorem zf8{s0:Sto} {l:Nat} {far thin:Int} (hl:l<kJ!) (f0:3<=far) (f1:far<=fB!) (a1:fG!):∀(k j:Nat) (all:List D) (s:Sto) (xs:List Int) (p q:Option D),LS s0 l s xs->(∀y∈xs,0<=y/\y<=fB!)->w!=j->j+k<=4-> ∃s' ys p' q',yU [] all (eA! (yg 5 d ρ s) ((zA jD jQ) ρ' s')) ((oj! j k).map λi=>aK! (ab! i)) [F!,a1,b8!,cE!,mz!,p,q,a!] s=K! [F!,a1,b8!,cE!,mz!,p',q',a!] s'/\LS s0 l s' ys/\(∀y∈ys,0<=y/\y<=fB!)/\c9!=j+k
 | 0,j,all,s,xs,p,q,h,hx,hj,_=>⟨s,xs,p,q,by simp[yU,okG],h,hx,by lia⟩ | k+1,j,all,s,xs,p,q,h,hx,hj,hk=>by
  obtain⟨r1,s1,e1,rf,rg,d1⟩:=vJ (ρ:=[F!,a1,b8!,cE!,mz!,aY!,q,a!]) (f:=q!) (g:=N!) h.pot (by lia) (_bo f1 bB) (by rfl) (by rfl);have h1:=h.drawn hl d1;obtain⟨r2,s2,e2,rh,rj,d2⟩:=vJ (ρ:=[F!,a1,b8!,cE!,mz!,aY!,e! (r1+1),a!]) (f:=q!) (g:=E! 4) (far:=4) h1.pot (by decide) (kO (by decide)) (by rfl) (by rfl);have h2:=h1.drawn hl d2;have hv:∃x:Int,yC (c! (r1+1)) (c! (aF! (jP! thin r2) 1 0)) s2=bp! (c! x)/\0<=x/\x<=fB!:=by
   refine⟨(r1+1)*(aF! (jP! thin r2) 1 0),z1q s2 (by lia) (_bo (show r1+1<=fB! by lia) bB) (by split<;>decide) (by split<;>exact kO (by decide)),?_⟩;split<;>lia
  obtain⟨x,ex,x0,x1⟩:=hv;have h3:=h2.set hl (xs++[x]);obtain⟨s',ys,p',q',e3,h4,y4,l4⟩:=zf8 hl f0 f1 a1 k (j+1) all (og! kJ! (iL (xs++[x]))) (xs++[x]) aY! (e! (r1+1)) h3 (by
   intro y hy;rcases l9! hy with hy | hy;·exact hx y hy
   ·simp at hy;subst hy;exact aw! x0 x1) (by simp[hj]) (by lia);refine⟨s',ys,p',q',?_,h4,y4,by lia⟩;have b1:jD [F!,a1,b8!,cE!,mz!,aY!,q,a!] s=g6! [F!,a1,b8!,cE!,mz!,aY!,e! (r1+1),a!]:=by
   rw[jD,zR,yH,e1];rfl
  have b2:jQ [F!,a1,b8!,cE!,mz!,aY!,e! (r1+1),a!] s1=K! [F!,a1,b8!,cE!,mz!,aY!,e! (r1+1),a!] (og! kJ! (iL (xs++[x]))):=by
   have ev:eOp yC (zd 6) (aG! zeb (eOp dGe (dx! zC (E! 4)) be!)) [F!,a1,b8!,cE!,mz!,aY!,e! (r1+1),a!] s1=bp! (c! x):=by
    have g:zg zeb (aU! (eOp dGe (dx! zC (E! 4)) be!)) [F!,a1,b8!,cE!,mz!,aY!,e! (r1+1),a!] s1=bp! (c! (aF! (jP! thin r2) 1 0)):=by
     rw[yi,zr,yH,e2];rfl
    rw[yH];simp only[yh,_c,_d,Rb];rw[g,Rb,ex]
   rw[jQ];exact zmp (by rfl) ev h2.at_ (by lia)
  rw[List.range'_succ,_p,yU,_h (by intro p hp;cases hp),ua,Rb];simp only[_E,_B];rw[zlo,b1,Rb];simp only;rw[b2,Rb];simp only;exact e3
theorem zeO: zfw n (i! M!)=.ok M! (s.take n):=z1A (yR v)
theorem zhM(h:a1! ns)(e:G! s L (iL ns))(hf:ay!=i! (.loc L)):tOf (eOp dEq (aG! um f) B!) ρ s=i! (fh! nC! 0):=by
 rw[jt,yH,yI hf,zkv h e];rfl
theorem zga(h:a1! ns)(hn:∀y∈ns,0<=y)(hm:nC!≠0):∃x∈ns,0<x:=⟨nC!,kG! h,by have:=hn _ (kG! h);lia⟩
theorem zu7{s:Sto} {l:Nat} (h:Pot s l):∃n v s',z1C [dP!] s=bj! M!/\jJ!/\vc s s' l:=by
 have hl:=h.lt;have st:zy [dI!,fV!,qU!,"_law_thin",kI!,ev!,cw!,oq!] [dP!]=[F!,a!,a!,a!,a!,a!,a!,a!]:=rfl;obtain⟨r1,s1,e1,a1,b1,d1⟩:=vJ (ρ:=[F!,a!,a!,a!,a!,a!,a!,a!]) (f:=q!) (g:=E! 3) (far:=3) h (by decide) (kO (by decide)) (by rfl) (by rfl);obtain⟨n,hn⟩:∃n:Nat,2+r1=j! n:=⟨fy! (2+r1),by lia⟩;have bi:ba!:=by unfold Sz;lia
 have p1:z1r [F!,a!,a!,a!,a!,a!,a!,a!] s=g6! [F!,aC!,a!,a!,a!,a!,a!,a!]:=by
  rw[z1r,zR,yH,qr,Rb,e1];simp[hn]
 obtain⟨r2,s2,e2,a2,b2,d2⟩:=vJ (ρ:=[F!,aC!,a!,a!,a!,a!,a!,a!]) (f:=q!) (g:=E! 6) (far:=6) d1.pot (by decide) (kO (by decide)) (by rfl) (by rfl);obtain⟨far,ef,f0,f1⟩:=znU s2 a2 b2;have p2:z1j [F!,aC!,a!,a!,a!,a!,a!,a!] s1=K! [F!,aC!,b8!,a!,a!,a!,a!,a!] s2:=by
  rw[z1j,zR,yH];have:qt (dT! (E! 13) (E! fv!) (eOp zeL (E! 10) (E! 6)) (eOp zeL (E! 10) (E! 30)) (cd! (E! 3) (E! 60))) [F!,aC!,a!,a!,a!,a!,a!,a!] s1=P! (W! [c! 13,c! fv!,c! 1000000,c! fB!,c! 3,c! 60]):=by
   simp only[z1d,zr,zK,qr,yH,Rb,zvD,zpu];rw[_h (by decide)]
  rw[this,Rb,e2,Rb,ef];rfl
 obtain⟨thin,s3,e3,a3,b3,d3⟩:=vJ (ρ:=[F!,aC!,b8!,a!,a!,a!,a!,a!]) (f:=q!) (g:=E! 4) (far:=4) d2.pot (by decide) (kO (by decide)) (by rfl) (by rfl);have p3:z1f [F!,aC!,b8!,a!,a!,a!,a!,a!] s2=K! [F!,aC!,b8!,cE!,a!,a!,a!,a!] s3:=by
  rw[z1f,zR,e3];rfl
 have dd:=bb! (d1.trans d2) d3;have p4:z1p [F!,aC!,b8!,cE!,a!,a!,a!,a!] s3=K! [F!,aC!,b8!,cE!,Q!,a!,a!,a!] (s3++bK! []):=by
  rw[z1p,zR,z9j,zK,Rb,bP! (by decide) rfl,dd.len];rfl
 have L0:=LS.start dd h [];obtain⟨s5,xs,p',q',e5,L5,x5,n5⟩:=zf8 (thin:=thin) hl f0 f1 aC! n 0 (yt n) (s3++bK! []) [] none none L0 (by decide) rfl (by unfold Sz at bi;lia);have p5:z0X [F!,aC!,b8!,cE!,Q!,a!,a!,a!] (s3++bK! [])=K! [F!,aC!,b8!,cE!,Q!,p',q',a!] s5:=by
  rw[z0X,jP,zeo (n:=n) (s1:=s3++bK! []) (by unfold Sz at bi;lia) (by rfl),Rb];rw[show (yt n)=(oj! 0 n).map (λi=>aK! (ab! i)) from by rw[yt,List.range_eq_range']]at e5 ⊢;exact e5
 rw[_aq]at n5;have oS:a1! xs:=λz=>by rw[z]at n5;simp at n5;unfold Sz at bi;lia
 have s8:∃s6 ys,jI [F!,aC!,b8!,cE!,Q!,p',q',a!] s5=K! [F!,aC!,b8!,cE!,Q!,p',q',a!] s6/\LS s l s6 ys/\(∀y∈ys,0<=y/\y<=fB!)/\c9!=n:=by
  have t:=zhM (f:=zd 4) (ρ:=[F!,aC!,b8!,cE!,Q!,p',q',a!]) oS L5.at_ (by rfl);by_cases z:jW! xs=0
  ·obtain⟨ra,sa,ea,aa,ba,da⟩:=vJ (ρ:=[F!,aC!,b8!,cE!,Q!,p',q',a!]) (f:=q!) (g:=N!) (far:=far) L5.pot (by lia) (_bo f1 bB) (by rfl) (by rfl);have La:=L5.drawn hl da;obtain⟨rb,sb,eb,ab,bb,db⟩:=vJ (ρ:=[F!,aC!,b8!,cE!,Q!,p',q',a!]) (f:=q!) (g:=r!) (far:=n) La.pot (by unfold Sz at bi;lia) (kO (by unfold Sz at bi;lia)) (by rfl) (by rfl);have Lb:=La.drawn hl db;refine⟨_,_,?_,Lb.set hl (iB! rb.toNat (1+ra)),zj9 x5 (by lia),by simp[n5]⟩;rw[jI,z6U,t,Rb,_h (by simpa using z),z4q];exact z6j (by rw[yH,qr,Rb,ea];rfl) (by rfl) eb Lb.at_ ab (by lia)
  ·refine⟨s5,xs,?_,L5,x5,n5⟩;rw[jI,z6U,t,Rb,_o (by simpa using z)];rfl
 obtain⟨s6,ys,p8,L6,x6,n6⟩:=s8;obtain⟨r7,s7,e7,a7,b7,d7⟩:=vJ (ρ:=[F!,aC!,b8!,cE!,Q!,p',q',a!]) (f:=q!) (g:=E! 12) (far:=12) L6.pot (by decide) (kO (by decide)) (by rfl) (by rfl);have L7:=L6.drawn hl d7;have oU:z0m [F!,aC!,b8!,cE!,Q!,p',q',a!] s6=K! [F!,aC!,b8!,cE!,Q!,p',q',e! (1+r7)] s7:=by
  rw[z0m,zR,yH,qr,Rb,e7];rfl
 have oV:∃s8 zs,qW [F!,aC!,b8!,cE!,Q!,p',q',e! (1+r7)] s7=K! [F!,aC!,b8!,cE!,Q!,p',q',e! (1+r7)] s8/\LS s l s8 zs/\(∀y∈zs,0<=y/\y<=fB!)/\zs.length=n:=by
  obtain⟨rt,st,et,_,_,dt⟩:=vJ (ρ:=[F!,aC!,b8!,cE!,Q!,p',q',e! (1+r7)]) (f:=q!) (g:=E! 3) (far:=3) L7.pot (by decide) (kO (by decide)) (by rfl) (by rfl);have Lt:=L7.drawn hl dt;have t:tOf (eOp dEq (dx! zC (E! 3)) B!) [F!,aC!,b8!,cE!,Q!,p',q',e! (1+r7)] s7=.ok (fh! rt 0) st:=by rw[jt,yH,et];rfl
  by_cases z:rt=0
  ·obtain⟨ra,sa,ea,aa,ba,da⟩:=vJ (ρ:=[F!,aC!,b8!,cE!,Q!,p',q',e! (1+r7)]) (f:=q!) (g:=r!) (far:=n) Lt.pot (by unfold Sz at bi;lia) (kO (by unfold Sz at bi;lia)) (by rfl) (by rfl);have La:=Lt.drawn hl da;obtain⟨rb,sb,eb,ab,bb,db⟩:=vJ (ρ:=[F!,aC!,b8!,cE!,Q!,p',q',e! (1+r7)]) (f:=q!) (g:=r!) (far:=n) La.pot (by unfold Sz at bi;lia) (kO (by unfold Sz at bi;lia)) (by rfl) (by rfl);have Lb:=La.drawn hl db;have lP:ra.toNat<c9!:=by lia
   have ix:=zbg (d:=c! (ys[ra.toNat])) La.at_ aa (by simp[lP]);have my:=x6 ys[ra.toNat] (_O lP);refine⟨_,_,?_,Lb.set hl (ys.set rb.toNat ys[ra.toNat]),zj9 x6 my,by simp[n6]⟩;rw[qW,z6U,t,Rb,_h (by simpa using z),z2P];exact z6j (by
    rw[yH];simp only[yh,_c,_d,Rb];rw[ea,Rb];exact ix) (by rfl) eb Lb.at_ ab (by lia)
  ·refine⟨st,ys,?_,Lt,x6,n6⟩;rw[qW,z6U,t,Rb,_o (by simpa using z)];rfl
 obtain⟨s8,zs,oW,L8,x8,n8⟩:=oV;have lR:a1! zs:=λz=>by rw[z]at n8;simp at n8;unfold Sz at bi;lia
 have oX:∃s9 ws,qS [F!,aC!,b8!,cE!,Q!,p',q',e! (1+r7)] s8=K! [F!,aC!,b8!,cE!,Q!,p',q',e! (1+r7)] s9/\LS s l s9 ws/\(∀y∈ws,0<=y/\y<=fB!)/\ws.length=n/\∃x∈ws,0<x:=by
  have t:=zhM (f:=zd 4) (ρ:=[F!,aC!,b8!,cE!,Q!,p',q',e! (1+r7)]) lR L8.at_ (by rfl);by_cases z:jW! zs=0
  ·refine⟨_,_,?_,L8.set hl (zs.set (j! 0).toNat 1),zj9 x8 (by lia),by simp[n8],1,?_,by decide⟩
   ·rw[qS,z6U,t,Rb,_h (by simpa using z),z2Q];exact z6j (s1:=s8) (s2:=s8) (L:=s.length) (i:=0) (x:=1) (by rfl) (by rfl) (by rfl) L8.at_ (by decide) (by unfold Sz at bi;lia)
   ·exact List.mem_set (by unfold Sz at bi;lia) _
  ·refine⟨s8,zs,?_,L8,x8,n8,zga lR (cs! (x8 y hy).1) z⟩;rw[qS,z6U,t,Rb,_o (by simpa using z)];rfl
 obtain⟨s9,ws,oY,L9,x9,n9,w9⟩:=oX;have hk:j! 0<1+r7:=by lia
 refine⟨n,scl (1+r7) ws,s9.take ct!,?_,⟨⟨bi,by rw[zoE hk,n9],ah! ?_,?_⟩,ah! ?_⟩,L9.fin hl⟩
 ·simp only[z1C,z6V,Mof,z73,st,_i,_k,_v];rw[zn p1,zn p2,zn p3,zn p4,zn p5,zn p8,zn oU,zn oW,zn oY];have c:zv (zP (zd 4)) (ad! 7) (yg 1) zU (fK! 1 q!) [F!,aC!,b8!,cE!,Q!,p',q',e! (1+r7)] s9=.ok (bJ! (scl (1+r7) ws)) s9:=by
   rw[uh,uJ,ke];simp only[yh,_c,_d,Rb,L9.at_];rw[zbS (by
    intro p hp;simp at hp;subst hp;exact L9.at_) rK! (λy=>aK! (y*(1+r7))) ws [] (by
    intro y hy;have mm:=z1q (a:=y) (b:=1+r7) s9 (x9 y hy).1 (_bo (x9 y hy).2 bB) (by lia) (kO (by lia));simp[mm]) (by unfold Sz at bi;simp[cap];lia)];simp[scl,_L]
  rw[z3t,yo,yI c,z25];simp only[Rb];exact zeO
 ·obtain⟨y,hy,rfl⟩:=ho!;exact _bh (x9 y hy).1 (by lia)
 ·obtain⟨y,hy,h0⟩:=w9;exact⟨y*(1+r7),(zoJ hk).mpr hy,Int.mul_pos h0 hk⟩
 ·obtain⟨y,hy,rfl⟩:=ho!;have b:=x9 y hy;have m1:y*(1+r7)<=fB!*(1+r7):=_ce b.2 (by lia);have:j! 2 ^ 104=20282409603651670423947251286016:=by decide
  lia
instance (A:Tb):Decidable (z0P A):=by unfold z0P;infer_instance
noncomputable def okD:Nat->eG! D
 | _,.non=>true | _,.bl _=>true | _,.int _=>true | _,.str x=>PyData.strOk x | k+1,.tup xs=>oa! (okD k) | k+1,.lst xs=>oa! (okD k) | _,_=>false
theorem ztx: ∀(xs:List D),(∀x∈xs,lM! (z86 x)/\ml! (z86 x)<=2*k+3/\PyData.eqv (z86 x) (z86 x)=d!)->PyData.canLayAll0 o5!=d!/\PyData.depthAll o5!<=2*k+4/\PyData.eqvAll o5! o5!=d!
 | [],_=>⟨rfl,by simp[tPn,PyData.depthAll],by simp[tPn,PyData.eqvAll]⟩ | x::xs,h=>by
  have h1:=h x (by simp);have h2:=ztx xs (cs! (h y (by simp[hy])));refine⟨by simp[tPc,PyData.canLayAll0,h1.1,h2.1],?_,by simp[tPc,PyData.eqvAll,h1.2.2,h2.2.2]⟩;simp only[tPc,PyData.depthAll];lia
theorem zih:∀(k:Nat)(d:D),okD k d=d!->lM! (z86 d)/\ml! (z86 d)<=2*k+3/\PyData.eqv (z86 d) (z86 d)=d!:=by
 intro k;induction k with
 | zero=>
  intro d h;cases d with
  | str x=>change PyData.strOk x=d! at h;change lM! bY!/\ml! bY!<=_/\PyData.eqv bY! bY!=d!;simp[PyData.canLay0,PyData.depth,PyData.eqv,h] | non=>change lM! aa!/\ml! aa!<=_/\PyData.eqv aa! aa!=d!;simp[PyData.canLay0,PyData.depth,PyData.eqv] | bl b=>change lM! k7!/\ml! k7!<=_/\PyData.eqv k7! k7!=d!;simp[PyData.canLay0,PyData.depth,PyData.eqv] | int i=>change lM! Y!/\ml! Y!<=_/\PyData.eqv Y! Y!=d!;simp[PyData.canLay0,PyData.depth,PyData.eqv] | _=>exact nomatch (h:t!=d!)
 | succ k ih=>
  intro d h;cases d with
  | str x=>change PyData.strOk x=d! at h;change lM! bY!/\ml! bY!<=_/\PyData.eqv bY! bY!=d!;simp[PyData.canLay0,PyData.depth,PyData.eqv,h] | non=>change lM! aa!/\ml! aa!<=_/\PyData.eqv aa! aa!=d!;simp[PyData.canLay0,PyData.depth,PyData.eqv] | bl b=>change lM! k7!/\ml! k7!<=_/\PyData.eqv k7! k7!=d!;simp[PyData.canLay0,PyData.depth,PyData.eqv] | int i=>change lM! Y!/\ml! Y!<=_/\PyData.eqv Y! Y!=d!;simp[PyData.canLay0,PyData.depth,PyData.eqv] | tup xs=>
   have h:=_P.mp h;have q:=ztx xs (ah! (ih x (h x hx)));refine⟨by simp only[zqG,PyData.canLay0,q.1],?_,by simp only[zqG,PyData.eqv,q.2.2]⟩;simp only[zqG,PyData.depth];lia | lst xs=>
   have h:=_P.mp h;have q:=ztx xs (ah! (ih x (h x hx)));refine⟨by simp only[zqC,PyData.canLay0,q.1],?_,by simp only[zqC,PyData.eqv,q.2.2]⟩;simp only[zqC,PyData.depth];lia | _=>exact nomatch (h:t!=d!)
theorem z8D(h:okD k d=d!)(hk:k<=10):zjp d=d!:=by
 have q:=zih k d h;simp only[zjp,SeqAt.shaped,q.1];simp;lia
theorem eq_self(h:okD k d=d!)(hk:k<=10)(s:Sto):dEq d d s=cj!:=by
 have q:=zih k d h;have o:=z8D h hk;rw[dEq,bP! o o];simp only[eqD,q.2.2]
theorem ne_self(h:okD k d=d!)(hk:k<=10)(s:Sto):dNe d d s=cg!:=by
 have o:=z8D h hk;rw[dNe,bP! o o];simp only[eqD,(zih k d h).2.2];rfl
theorem zne(k:Nat)(ns:h!):(iL ns).all (okD k)=d!:=by
 rw[_P];intro x hx;obtain⟨n,_,rfl⟩:=ho!;cases k<;>rfl
theorem zml(k:Nat)(ns:h!):okD (k+1) (rD ns)=d!:=zne k ns
theorem ne_nil(h:okD k bH!=d!)(hk:k<=10)(s:Sto):dNe bH! (W! []) s=aV! (!xs.isEmpty):=by
 have o:=z8D h hk;have o2:zjp (W! [])=d!:=z8D (k:=1) rfl (by decide);rw[dNe,bP! o o2];cases xs with
 | nil=>simp[eqD,zqC,zqG,tPn,tPc,PyData.eqv,PyData.eqvAll] | cons x xs=>simp[eqD,zqC,zqG,tPn,tPc,PyData.eqv,PyData.eqvAll]
end Pg
namespace Pn
open L2 Dd Pm Pg
noncomputable def isI:eG! D
 | .int _=>true | _=>false
def okI:eG! D
 | .int i=>jP! 0 i | _=>false
theorem z7W(h:gZ! d)(s:Sto):vL [d] s=aV! (isI d):=by cases d<;>first | rfl | cases h
theorem jG(h:gZ! d)(s:Sto):xp [d] s=aV! (isI d):=by cases d<;>first | rfl | cases h
def Kd:D->k!
 | .tup xs=>∀x∈xs,gZ! x | .scr _=>False | d=>gZ! d
theorem Kd.ty(h:Kd d):gZ! d:=by cases d<;>first | rfl | exact h | exact b5! h
theorem all_ints:∀{xs:List D},sa!=d!->∃v:List Int,xs=br!
 | [],_=>cf! [] | x::xs,h=>by
  rw[_cg,_R]at h;obtain⟨v,rfl⟩:=all_ints h.2;cases x with
  | int i=>exact cf! (i::v) | _=>simp[isI]at h
theorem zlF:∀{v w:List Int},br!=iL w->v=w
 | [],[],_=>rfl | [],_::_,h=>by cases h | _::_,[],h=>by cases h | a::v,b::w,h=>by
  simp only[iL,_p,_aY,D.int.injEq]at h;rw[h.1,zlF (v:=v) (w:=w) h.2]
theorem zja(v:h!):(br!).all okI=v.all λx=>jP! 0 x:=by
 simp only[iL,List.all_map];rfl
theorem za5{α:b4!}(l:eX!)(p:eG! α)(s:Sto):zgs [W! (ok! (λx=>D.bl (p x)))] s=aV! (l.all p):=by simp[zgs,zW,(show oi! (ok! (λx=>D.bl (p x)))=b! (ok! p) from by
  rw[show (ok! (λx=>D.bl (p x)))=(ok! p).map D.bl by rw[_ak];rfl];exact zbk _)]
theorem z39(hk:∀x∈xs,gZ! x) (s:Sto) (h:dn! w!):zQ [ap!,c! w!] s=aV! sa!:=by
 have st:zy [iK!,"many"] [ap!,c! w!]=[b! ap!,e! w!]:=rfl;simp only[zQ,Mof,qO,st,_i,_k,_v];rw[zn (ρ':=[b! ap!,e! w!]) (s':=s) (by simp[zj8,yF,zW])];simp only[z2e,yo,yi,zr,zK,(comp_map (fi:=cW!) (mp:=[a!]) (fg:=yg 0) (fe:=bq! vL) (ρ:=[b! ap!,e! w!]) (s:=s) (λx=>x) (λx=>D.bl (isI x)) (λx=>[fk!]) xs (by simp) (λa _=>by rfl) (λa ha=>by simp[z7W (hk a ha)]) (by simp[cap];lia)),Rb,za5]
theorem z4x(s:Sto):∀(xs all:List D)(z:Option D),(∀x∈xs,gZ! x)-> aF! (oa! okI) (∃z',yU [] all (eA! (yg 1 d ρ s) (xC ρ' s')) xs [t,z] s=aW! [t,z']) (yU [] all (eA! (yg 1 d ρ s) (xC ρ' s')) xs [t,z] s=i! (.rt fC!))
 | [],all,z,_=>by simp[yU,okG] | x::xs,all,z,hk=>by
  have step:xC [t,fk!] s=aF! (okI x) (aW! [t,fk!]) (i! (.rt fC!)):=by
   have w:=jG (hk x (by simp)) s;have no:isI x=t!->xC [t,fk!] s=i! (.rt fC!):=λh=>by simp[w,h]
   cases x with
   | int i=>
    by_cases h0:0<=i;·simp[w,isI,okI,h0,(by omega)]
    ·simp[w,isI,okI,h0,(by omega)] | _=>rw[no rfl];rfl
  simp only[yU,_h (show okG [] all s from by intro p hp;cases hp),ua,Rb,_E,_B,step];cases h:okI x with
  | true=>
   simp only[_v,Rb,_cg,h,Bool.true_and];exact (z4x (t:=t) s xs all fk! (cs! (hk y (by simp[hy])))) | false=>simp[h]
theorem znD{xs:D!}(h:oa! okI=d!):sa!=d!:=by
 rw[_P]at h ⊢;intro x hx;have:=h x hx;cases x<;>simp_all[okI,isI]
theorem znP(h:gIs dr! d s=cg!):yA [d] s=cg!/\yJ [d] s=cg!:=by
 constructor;·simp[yA,Mof,jc,xa,jn,zy,h]
 ·simp[yJ,Mof,uN,zy,h]
theorem zk3(hd:Kd d)(s:Sto):(∃n v,d=M!/\aH!/\yA [d] s=cj!/\yJ [d] s=cj!)\/(yA [d] s=cg!/\yJ [d] s=cg!):=by cases d with
 | tup xs=>
  have hk:∀x∈xs,gZ! x:=hd;by_cases hs:2<=w!/\w!<=4
  ·have h1:=z4d xs s hs;have h2:=z39 hk s (by lia);have gl:yF [ap!] s=x! w!:=by rfl
   have lf:z1l (ad! ap!) s=aW! (ad! ap!):=by
    have:zd4 d! (c! (j! w!)) (n! [c! 2,c! 3,c! 4]) s=cg!:=by
     have hc:w!=2\/w!=3\/w!=4:=by lia
     rcases hc with hc | hc | hc<;>rw[hc]<;>rfl
    simp[gIs,tyD,isT,gl,this,cap]
   have lp:=z4x (t:=b! ap!) s xs xs none hk;have st:zy [ew!,cw!] [ap!]=ad! ap!:=rfl;have lw:yJ [ap!] s=(match zA wB vY (ad! ap!) s with | .ok (.rt d) s'=>bj! d | .ok (.nx _) s'=>bj! an! | _=>.no):=by
    simp only[yJ,Mof,uN,st,_i,_k,_v];rw[zn lf]<;>(generalize zA wB vY (ad! ap!) s=r;cases r with
     | ok fl _=>cases fl<;>rfl | _=>rfl)
   have q3:wB (ad! ap!) s=yU [] xs (eA! (yg 1 d ρ s) (xC ρ' s')) xs (ad! ap!) s:=by
    rw[wB,jP];rfl
   have pg:∀b,(∀v:List Int,xs=br!->(jP! 0 (jX! v)&&dO! 0 ip!)=b)->(sa!=t!->b=t!)->yA [ap!] s=aV! b:=λb hb lV=>by cases hi:sa! with
    | false=>
     rw[hi]at h2;rw[lV hi];have key:∀d:D,xa [d] s=cj!->yF [d] s=x! w!->zQ [d,c! w!] s=cg!->yA [d] s=cg!:=λd a1 a2 a3=>by simp[yA,Mof,jc,zy,a1,a2,a3]
     exact key _ h1 gl h2 | true=>
     rw[hi]at h2;obtain⟨v,rfl⟩:=all_ints hi;have ne:a1! v:=by rintro rfl;exact cN! hs (by decide)
     have g1:=z92 s ne;have g2:=zlT s ne;have hb:=hb v rfl;have key:∀d:D,xa [d] s=cj!->yF [d] s=x! (v! br!)->zQ [d,c! (v! br!)] s=cj!->um [d] s=x! ip!->z87 [d] s=x! (jX! v)->yA [d] s=aV! b:=λd a1 a2 a3 a4 a5=>by
      rw[<- hb];by_cases z:0<=jX! v;·simp[yA,Mof,jc,zy,a1,a2,a3,a4,a5,z,-List.length_map]
      ·simp[yA,Mof,jc,zy,a1,a2,a3,a4,a5,z,-List.length_map]
     exact key _ h1 gl h2 g1 g2
   cases ho:oa! okI with
   | false=>
    right;rw[ho,_o (by decide)]at lp;refine⟨pg t! (ls! ?_) (λ_=>rfl),?_⟩
    ·subst hv;rw[zja]at ho;rw[Bool.and_eq_false_iff];left;rw[decide_eq_false_iff_not];intro z;have:v.all (λx=>jP! 0 x)=d!:=by
      rw[_P];intro x hx;have:=minL_le (xs:=v) x hx;exact _aJ (by lia)
     rw[this]at ho;cases ho
    ·rw[lw,z0D (by rw[q3];exact lp)] | true=>
    rw[ho,gx!]at lp;obtain⟨z',lp⟩:=lp;obtain⟨v,rfl⟩:=all_ints (znD ho);have ne:a1! v:=by rintro rfl;exact cN! hs (by decide)
    rw[zja,_P]at ho;have nn:∀x∈v,0<=x:=ah! (_c8 (ho x hx));have g1:=z92 s ne;have lX:yJ [n! br!] s=aV! (dO! 0 ip!):=by
     rw[lw,zn (by rw[q3];exact lp)];have key:∀d:D,um [d] s=x! ip!->vY [g!,z'] s=i! (.rt (.bl (dO! 0 ip!))):=λd a=>by simp[a]
     rw[key _ g1]
    by_cases mx:0<ip!
    ·left;have hv:Lot J! v:=by refine⟨?_,?_,nn,⟨ip!,kG! ne,mx⟩⟩<;>first | rfl | (simp at hs;lia) | skip
     refine⟨J!,v,rfl,hv,zeQ hv s,?_⟩;rw[lX,_aJ mx]
    ·right;refine⟨pg t! (λw hw=>?_) (λ_=>rfl),?_⟩
     ·have:v=w:=zlF hw;subst this;rw[_ae mx,_cO]
     ·rw[lX,_ae mx]
  ·right;constructor
   ·have key:∀d:D,xa [d] s=cg!->yA [d] s=cg!:=λd a1=>by simp[yA,Mof,jc,zy,a1]
    exact key _ (by
     by_cases a:j! 2<=w!
     ·have:¬ j! w!<=4:=by lia
      simp[xa,Mof,jn,zy,zj8,yF,zW,a,this]
     ·simp[xa,Mof,jn,zy,zj8,yF,zW,a])
   ·have gl:yF [ap!] s=x! w!:=by rfl
    have q:zd4 d! (c! (j! w!)) (n! [c! 2,c! 3,c! 4]) s=cj!:=by
     have h2:w!≠2:=by lia
     have h3:w!≠3:=by lia
     have h4:w!≠4:=by lia
     generalize xs.length=m at h2 h3 h4;have g2:¬ j! 2=m:=by lia
     have g3:¬ j! 3=m:=by lia
     have g4:¬ j! 4=m:=by lia
     have e:inV (c! (j! m)) [c! 2,c! 3,c! 4]=t!:=by simp[inV,eqV,g2,g3,g4]
     simp[zd4,zbG,zW,z2q,e]
    simp[yJ,Mof,uN,zy,gIs,tyD,isT,gl,q,cap] | scr _=>exact hd.elim | _=>
  right;have hd:=hd.ty;first
  | (exfalso;simp[tyD]at hd;done) | exact znP rfl
theorem z2r:LeM yQ vE:=mm! (r0! LeS.fNo)
theorem ziO:LeM z5V z62:=mm! (LeS.seq (rk! z2r) (ri! jv! jv! jv!))
theorem z3l(h:yA [d] s=cg!):vE [d] s=.ex hc! s:=by
 have st:zy df! [d]=[g!]:=rfl;simp[vE,kZ,z4y,st,h]
theorem zi1(h:ay!=.ex c s'):zA f g ρ s=.ex c s':=by rw[zlo,h,R.bind_ex]
theorem zdD(h:ay!=.ex c s'):wy f ρ s=.ex c s':=by rw[z1o,h,R.bind_ex]
theorem znR(k:Nat)(b:Bool)(s:Sto):ya (k+1) [hD!,hD!] s=cj!:=by
 have d1:dIs hD! an! s=cg!:=rfl;simp[ya,Mof,qq,zy,zp3,zp0,gIs,tyD,isT,d1]
theorem same_int(k:Nat)(i:Int)(s:Sto):ya (k+1) [Y!,Y!] s=cj!:=by
 have d1:dIs Y! an! s=cg!:=rfl;simp[ya,Mof,qq,zy,zp3,zp0,gIs,tyD,isT,d1,(jG (d:=Y!) rfl s),isI]
theorem same_str(k:Nat) (hx:PyData.strOk x=d!) (s:Sto):ya (k+1) [bY!,bY!] s=cj!:=by
 have d1:dIs bY! an! s=cg!:=rfl;simp[ya,Mof,qq,zy,zp3,zp0,gIs,tyD,isT,d1,(eq_self (k:=0) (d:=bY!) hx (by decide) s)]
def uL:Nat->D->k!
 | _,.bl _=>True | _,.int _=>True | _,.str x=>PyData.strOk x=d! | k+1,.tup xs=>kn!/\∀x∈xs,uL k x | k+1,.lst xs=>kn!/\∀x∈xs,uL k x | _,_=>False
theorem zb9:∀xs:List D,z4I xs xs=nX! (λx=>gN! [x,x])
 | []=>rfl | x::xs=>by rw[z4I,zb9 xs];rfl
theorem zeN(hl:kn!) (h:∀x∈xs,ya k [x,x] s=cj!) (d:D) (hd:d=ap!\/d=bH!):ya (k+1) [d,d] s=cj!:=by
 have st:zy [hK!,mi!] [d,d]=[g!,g!]:=rfl;have g:z94 s d=b! (xs,[]):=by rcases hd with rfl | rfl<;>rfl
 have ga:=za5 xs (λ_=>d!) s;have ga:zgs [W! (nX! (λ_=>D.bl d!))] s=cj!:=by rw[ga];simp
 have gl:yF [d] s=x! w!:=by rcases hd with rfl | rfl<;>rfl
 have q2:z3B (ya k) [g!,g!] s=aW! [g!,g!]:=by rcases hd with rfl | rfl<;>rfl
 simp only[ya,Mof,qq,st,_i,_k,_v];rw[z0D (by
  rw[z2K,z6U];have t:tOf (zp0 ef! dr! r!) [g!,g!] s=kY!:=by rcases hd with rfl | rfl<;>rfl
  rw[t,Rb,gx!,zn q2,(show z0b (ya k) [g!,g!] s=i! (.rt eV!) from by simp only[z0b,yo,zfd,yH,yi,zr,zK,(comp_map (fi:=z54 (hP! 0 1)) (mp:=iW!) (fg:=yT 0 1) (fe:=cM! (ya k)) (ρ:=[g!,g!]) (s:=s) (λx=>gN! [x,x]) (λx=>D.bl d!) (λx=>[fk!,fk!]) xs (by simp[g,zb9]) (λa _=>by rfl) (λa ha=>by simp[h a ha]) hl),Rb,ga,yh,_c,_d,gl,zdv,_c7])])]
theorem z6X:∀(k:Nat)(d:D)(s:Sto),uL k d->ya (k+1) [d,d] s=cj!
 | k,.bl b,s,_=>znR k b s | k,.int i,s,_=>same_int k i s | k,.str x,s,h=>same_str k (by unfold uL at h;exact h) s | k+1,.tup xs,s,h=>zeN h.1 (ah! (z6X k x s (h.2 x hx))) _ c4! | k+1,.lst xs,s,h=>zeN h.1 (ah! (z6X k x s (h.2 x hx))) _ (T! rfl) | 0,.tup xs,s,h=>by cases h | 0,.lst xs,s,h=>by cases h | k,.non,s,h=>by simp[uL]at h | k,.dct,s,h=>by simp[uL]at h | k,.loc _,s,h=>by simp[uL]at h | k,.dlo _,s,h=>by simp[uL]at h | k,.fn _,s,h=>by simp[uL]at h | k,.exc _,s,h=>by simp[uL]at h | k,.scr _,s,h=>by simp[uL]at h
theorem uL.up:∀{k:Nat}{d:D},uL k d->uL (k+1) d
 | _,.bl _,_=>by simp[uL] | _,.int _,_=>by simp[uL] | _,.str x,h=>by unfold uL at h ⊢;exact h | 0,.tup xs,h=>by cases h | 0,.lst xs,h=>by cases h | k+1,.tup xs,h=>⟨h.1,ah! (h.2 x hx).up⟩ | k+1,.lst xs,h=>⟨h.1,ah! (h.2 x hx).up⟩ | k,.non,h=>by simp[uL]at h | k,.dct,h=>by simp[uL]at h | k,.loc _,h=>by simp[uL]at h | k,.dlo _,h=>by simp[uL]at h | k,.fn _,h=>by simp[uL]at h | k,.exc _,h=>by simp[uL]at h | k,.scr _,h=>by simp[uL]at h
theorem zls{k:Nat} (s:Sto)(h:uL 3 d):uB [d,d] s=cj!:=z6X 4 d s h.up
theorem zbv(s:Sto)(x y:fG!):∀(k:Nat)(a b:Int),0<=a->0<=b->pm!<k-> vw (el! 3 B!) z1s k [x,e! a,y,a8!] s=aW! [x,e! (cg a b),y,e! 0]
 | 0,a,b,_,_,h=>by lia | k+1,a,b,ha,hb,h=>by
  rw[vw];by_cases e:b=0
  ·subst e;simp[zis ha]
  ·have b0:0<b:=by lia
   have h2:=_bn a b0;have e1:tOf (ej! dNe 3 B!) [x,e! a,y,a8!] s=kY!:=by simp[e]
   rw[e1,Rb,(show z1s [x,e! a,y,a8!] s=aW! [x,a8!,y,e! (a % b)] from by simp[(z6I (a:=a) s b0)])];show vw _ _ k _ s=_;rw[(zbv s x y k b (a % b) hb (_a9 a (show b≠0 by lia)) (by lia)),zhN b0]
theorem z93(s:Sto)(x:fG!):∀(v:List Int)(a:Int)(all:List D)(z z2:Option D),0<=a->(∀x∈v,0<=x)->∃z' fP,yU [] all (eA! (yg 2 d ρ s) (zA z15 z0R ρ' s')) br! [x,e! a,z,z2] s=aW! [x,e! (oY! a),z',fP]
 | [],a,all,z,z2,_,_=>⟨z,z2,by simp[yU,okG]⟩ | b::v,a,all,z,z2,ha,hv=>by
  obtain⟨z',fP,ih⟩:=z93 s x v (cg a b) all a8! (e! 0) (by simp[cg]) λw hw=>hv w (by simp[hw]);refine aN! z' fP ?_;simp only[iL,_p,yU];rw[_h (by intro p hp;cases hp)];have e2:z0R [x,e! a,a8!,a8!] s=aW! [x,e! (cg a b),a8!,e! 0]:=by exact z3m (zbv s x a8! (pm!+1) a b ha (hv b (by simp)) (by lia)) (by simp)
  rw[ua,Rb];simp only[_E,_B];rw[zn (show z15 [x,e! a,a8!,z2] s=aW! [x,e! a,a8!,a8!] from by rfl),e2];exact ih
theorem zpS(h:aH!) (s:Sto):z1B [M!] s=x! b3!:=by
 have st:zy [kI!,hK!,cw!,d0!] [M!]=[bk!,a!,a!,a!]:=rfl;obtain⟨z',fP,lp⟩:=z93 s bk! v 0 br! a! a! (by lia) fX!;simp only[z1B,Mof,z7d,st,_i,_k,_v];rw[zn (ρ':=fd! M! cL! a!) (s':=s) (by rfl),zn (ρ':=[bk!,e! (oY! 0),z',fP]) (s':=s) (by exact lp)];rfl
structure Bn(m:Nat)(d:D):k! where
 kd:Kd d
 bd:∀xs i,d=ap!->aK! i∈xs->eL!<2 ^ m
theorem Bn.tup{m:Nat}{xs:D!}(h:∀x∈xs,gZ! x/\∀i,x=Y!->eL!<2 ^ m):Bn m ap!:= ⟨ah! (h x hx).1,λys i e hi=>by cases e;exact (h _ hi).2 i rfl⟩
theorem Bn.row(h:∀x∈v,c7! m):Bn m M!:=oS! (by
 obtain⟨y,hy,rfl⟩:=ho!;exact fc! (λi e=>by cases e;exact h _ hy))
theorem Bn.other(h:Kd d)(hn:∀xs,d≠ap!):Bn m d:=⟨h,λxs i e _=>cN! e (hn xs)⟩
noncomputable def zgt:D!:=[an!,eV!,fC!,c! (-1),cL!,c! 7,c! fB!,aq! "",aq! "1:0",n! [],n! [cL!,cL!],n! [c! 1],W! (cU! 1 0),.dct,n! [n! (cU! 1 0),n! (cU! 0 1)],n! [eV!,c! 2]]
theorem zr4(h:Pot s l):∃d s',kD [dP!] s=bj! d/\d∈zgt/\vc s s' l:=by
 have st:zy [dI!,hi!] [dP!]=[F!,a!]:=rfl;have q1:z4J [F!,a!] s=aW! [F!,bg! [an!,eV!,fC!,c! (-1),cL!,c! 7,c! fB!,aq! "",aq! "1:0",n! [],n! [cL!,cL!],n! [c! 1],W! (cU! 1 0),.dct]]:=by rfl
 obtain⟨r,s',e,a,b,dr⟩:=vJ (f:=q!) (g:=E! 16) (far:=16) (ρ:=[F!,bg! [an!,eV!,fC!,c! (-1),cL!,c! 7,c! fB!,aq! "",aq! "1:0",n! [],n! [cL!,cL!],n! [c! 1],W! (cU! 1 0),.dct]]) h (by decide) (kO (by decide)) (by rfl) (by rfl);have hr:r.toNat<zgt.length:=by simp[zgt];lia
 have ix:=wT (xs:=zgt) (d:=zgt[r.toNat]) (s:=s') a (by simp[hr]);refine⟨zgt[r.toNat],s',?_,_O hr,dr⟩;simp only[kD,Mof,z7K,st,_i,_k,_v];rw[zn q1,z4r,yo,yH];have c:eOp xh r! (qt (cd! (dD! (dD! ae! B!) (dD! B! ae!)) (dD! (eC eV!) (E! 2)))) [F!,bg! [an!,eV!,fC!,c! (-1),cL!,c! 7,c! fB!,aq! "",aq! "1:0",n! [],n! [cL!,cL!],n! [c! 1],W! (cU! 1 0),.dct]] s=bA! zgt:=by rfl
 rw[c,Rb,e,Rb,ix,Rb]
theorem zmD(h:d∈zgt)(hm:2<=m):Bn m d:=by
 have h2:2 ^ 2<=2 ^ m:=_A (by decide) hm;simp only[zgt,_s,_W,_bc]at h;rcases h with rfl | rfl | rfl | rfl | rfl | rfl | rfl | rfl | rfl | rfl | rfl | rfl | rfl | rfl | rfl | rfl;case inr.inr.inr.inr.inr.inr.inr.inr.inr.inl=>exact pD! (by simp)
 case inr.inr.inr.inr.inr.inr.inr.inr.inr.inr.inl=>exact pD! (by simp[tyD];lia)
 case inr.inr.inr.inr.inr.inr.inr.inr.inr.inr.inr.inl=>exact pD! (by simp[tyD];lia)
 case inr.inr.inr.inr.inr.inr.inr.inr.inr.inr.inr.inr.inr.inr.inl=>exact pD! (by simp[tyD])
 case inr.inr.inr.inr.inr.inr.inr.inr.inr.inr.inr.inr.inr.inr.inr=>exact pD! (by simp[tyD];lia)
 all_goals exact oP! (by intro xs e;cases e)
theorem zox{v:h!} {k:Nat} (hk:k<J!) (s:Sto):∃y∈v,c5! M! (j! k-1) s=x! y:=by cases k with
 | zero=>
  simp only[dIx,zW,atI,(show ixN (v! br!) (ez! 0-1)=b! (J!-1) from by
   unfold ixN;simp;lia),_M];simp[(show J!-1<J! from by lia)] | succ k=>
  have hl:k<J!:=by lia
  refine⟨v[k],_O hl,?_⟩;rw[show (ab! (k+1)-1)=k by lia];exact (z8Y (xs:=br!) (j:=k) (d:=c! (v[k])) s (by simp[hl]))
theorem zj7(h:Pot s l) (hv:∀x∈v,c7! m) (hm:104<=m) (h1:1<=J!) (h4:J!<=4):∃d s',ux [dP!,M!] s=bj! d/\Bn (m+1) d/\vc s s' l:=by
 have st:zy [dI!,"_law_row",eP!,qV!,hi!] [dP!,M!]=jM! F! bk!:=rfl;have gl:∀s,yF [M!] s=x! J!:=λs=>by simp[yF,zW]
 obtain⟨r1,s1,e1,a1,b1,d1⟩:=vJ (f:=q!) (g:=hR! 1) (far:=v.length) (ρ:=jM! F! bk!) h (by lia) (kO (by lia)) (by rfl) (by simp only[yi,zr,zK,yh,_d,_c,Rb,gl]);obtain⟨k,rfl⟩:∃k:Nat,r1=k:=⟨r1.toNat,by lia⟩;have hk:k<J!:=by lia
 have q1:z0l (jM! F! bk!) s=g6! [F!,bk!,bT!,a!,a!]:=by rw[z0l,zR,e1];rfl
 have oZ:∀s,c5! M! k s=x! (v[k]):=λs=>z8Y (xs:=br!) (j:=k) (d:=c! (v[k])) s (by simp[hk]);obtain⟨y,hy,o0⟩:=zox hk s1;have bp:∀{i:Int},eL!<2 ^ m->eL!+1<2 ^ (m+1):=λ{i} hi=>by
  have:2 ^ (m+1)=2 ^ m*2:=_dI ..;have:0<2 ^ m:=Nat.pow_pos (by decide);lia
 have hx:=bp (hv _ (_O hk));let L10:D!:=[c! (v[k]+1),c! (v[k]-1),c! (0-v[k]),cL!,eV!,an!,aq! "1",n! [c! 1],c! fB!,c! y];have hL:∀e∈L10,gZ! e/\∀i,e=Y!->eL!<2 ^ (m+1):=by
  have iQ:bE! (j! fB!)<2 ^ (m+1):=_j (by decide:bE! (j! fB!)<2 ^ 105) (_A (by decide) (by lia));have rm:=bp (hv _ hy);intro e he;simp only[L10,_s,_W,_bc]at he;rcases he with rfl | rfl | rfl | rfl | rfl | rfl | rfl | rfl | rfl | rfl;all_goals refine fc! (fb! ?_)
  all_goals first | cases hi | skip
  all_goals first | exact iQ | lia
 have q2:z0s [F!,bk!,bT!,a!,a!] s1=g6! [F!,bk!,bT!,bg! L10,a!]:=by
  have key:∀d:D,c5! d k s1=P! (c! (v[k]))->c5! d (j! k-1) s1=P! (c! y)->z0s [F!,g!,bT!,a!,a!] s1=g6! [F!,g!,bT!,bg! L10,a!]:=λd c1 c2=>by simp[c1,c2,zpu,cap,L10]
  exact key _ (oZ s1) o0
 obtain⟨r2,s2,e2,a2,b2,d2⟩:=vJ (f:=q!) (g:=E! 10) (far:=10) (ρ:=[F!,bk!,bT!,bg! L10,a!]) d1.pot (by decide) (kO (by decide)) (by rfl) (by rfl);have lY:r2.toNat<L10.length:=by simp[L10];lia
 have lZ:=wT (xs:=L10) (d:=L10[r2.toNat]) (s:=s2) a2 (by simp[lY]);have he:=hL _ (_O lY);generalize L10[r2.toNat]=e at lZ he;have q3:z06 [F!,bk!,bT!,bg! L10,a!] s1=K! [F!,bk!,bT!,l!,a!] s2:=by
  rw[z06,zR,yH];simp only[yh,_d,_c,Rb];rw[e2,Rb,lZ];rfl
 have sk:∀s,dSl M! a! (b! (j! k)) s=a7! ((br!).take k):=λs=>z2k _ _ _;have sd:∀s,dSl M! (b! (j! k)) a! s=a7! ((br!).drop k):=λs=>z2s _ _ _;have l5:∀s,dSl M! (b! (j! k+1)) a! s=a7! ((br!).drop (k+1)):=λs=>z2s br! (k+1) s;have lv:v! br!=J!:=by simp
 generalize hT:(br!).take k=T at sk;generalize hU:(br!).drop k=U at sd;generalize hW:(br!).drop (k+1)=W at l5;have lT:aZ!<=4:=by rw[<- hT,_b9];lia
 have lU:U.length<=4:=by rw[<- hU,_aP];lia
 have lW:W.length<=4:=by rw[<- hW,_aP];lia
 have bH:∀x∈br!,gZ! x/\∀i,x=Y!->eL!<2 ^ (m+1):=ah! (by
  obtain⟨z,hz,rfl⟩:=ho!;refine fc! (λi q=>?_);cases q;have:=bp (hv _ hz);lia)
 have iT:∀x∈T,x∈br!:=ah! (_S (hT ▸ hx));have iU:∀x∈U,x∈br!:=ah! (_aC (hU ▸ hx));have iW:∀x∈W,x∈br!:=ah! (_aC (hW ▸ hx));obtain⟨o,s3,e3,ho,d3⟩:=zr4 (l:=l) (d1.trans d2).pot;let cZ:D!:=[n! (T++[e]++W),n! (T++[e]++W),n! (T++W),bJ! v,n! (T++[cL!]++U),n! (br!).reverse,n! (br!++br!),n! (lH! cL!),o,n! [M!]];have q5:qU [F!,bk!,bT!,l!,bg! [n! (T++[e]++W),n! (T++[e]++W),n! (T++W),bJ! v]] s2=K! [F!,bk!,bT!,l!,bg! cZ] s3:=by
  have c1:aZ!+1<=cap:=by simp[cap];lia
  have c2:aZ!+1+U.length<=cap:=by simp[cap];lia
  have c4:ez! 1<=cap:=by decide
  have c5:ez! 6<=cap:=by decide
  have c6:ez! 10<=cap:=by decide
  have ad:xh M! M! s2=bp! (n! (br!++br!)):=by rw[z36,_h (by simp[cap];lia)]
  have rv:zqP r! [F!,bk!,bT!,l!,bg! [n! (T++[e]++W),n! (T++[e]++W),n! (T++W),bJ! v]] s2=bp! (n! (br!).reverse):=by rfl
  have key:∀(d g rv aa rr x4:D) (z:List D),pr!=4->x4=W! z->dSl d a! (b! (j! k)) s2=bp! (n! T)->dSl d (b! (j! k)) a! s2=bp! (n! U)->yF [d] s2=bp! (c! J!)->xh d d s2=bp! aa->zh7 (n! [cL!]) (c! J!) s2=bp! rr-> zqP r! [F!,g!,bT!,l!,b! x4] s2=bp! rv->qU [F!,g!,bT!,l!,b! x4] s2=K! [F!,g!,bT!,l!,bg! (z++[n! (T++[cL!]++U),rv,aa,rr,o,n! [d]])] s3:=λd g rv aa rr x4 z hz o6 x1 x2 x3 x5 x6 x7=>by
   subst o6;rw[qU,zR,yH];simp only[z1d,zr,zK,x7,yH,zaK,qh,z1e,yh,z1L,qr,yi,_d,_c,Rb,x1,x2,x3,x5,x6,e3,z36,_a2,_i,_k,_aq,_h c1,_h c2,_h c4,_h c5,z70,hz,Nat.reduceAdd,_h c6,_E,_B]
  exact key _ (W! []) _ _ _ _ _ rfl rfl (sk s2) (sd s2) (gl s2) ad (by
   rw[zn5,_h ⟨by lia,by decide,by simp[cap];lia⟩];congr 2;rw[_T];generalize v.length=n;induction n with
   | zero=>rfl | succ n ih=>rw[_aO,_bv,ih];rfl) rv
 obtain⟨r4,s4,e4,a4,b4,d4⟩:=vJ (f:=q!) (g:=E! 10) (far:=10) (ρ:=[F!,bk!,bT!,l!,bg! cZ]) d3.pot (by decide) (kO (by decide)) (by rfl) (by rfl);have fQ:r4.toNat<cZ.length:=by simp[cZ];lia
 have iS:=wT (xs:=cZ) (d:=cZ[r4.toNat]) (s:=s4) a4 (by simp[fQ]);have hM:∀d∈cZ,Bn (m+1) d:=by
  have fR:Bn (m+1) (n! (T++[e]++W)):=oS! (by
   simp only[_I,_s,_W,_bc]at hx;rcases hx with (hx | rfl) | hx;·exact bH x (iT x hx)
   ·exact he
   ·exact bH x (iW x hx))
  intro d hd;simp only[cZ,_s,_W,_bc]at hd;rcases hd with rfl | rfl | rfl | rfl | rfl | rfl | rfl | rfl | rfl | rfl;·exact fR
  ·exact fR
  ·refine oS! ?_;rcases l9! hx with hx | hx;·exact bH x (iT x hx)
   ·exact bH x (iW x hx)
  ·exact oP! (by intro xs q;cases q)
  ·refine oS! ?_;simp only[_I,_s,_W,_bc]at hx;rcases hx with (hx | rfl) | hx;·exact bH x (iT x hx)
   ·exact fc! (λi q=>by cases q;exact Nat.pow_pos (by decide))
   ·exact bH x (iU x hx)
  ·exact oS! (bH x (List.mem_reverse.mp hx))
  ·exact oS! (mR! hx (bH x) (bH x))
  ·refine oS! ?_;rw[(List.mem_replicate.mp hx).2];exact fc! (λi q=>by cases q;exact Nat.pow_pos (by decide))
  ·exact zmD ho (by lia)
  ·refine oS! ?_;simp only[_s,_W,_bc]at hx;subst hx;exact fc! (λi q=>by cases q)
 refine⟨cZ[r4.toNat],s4,?_,hM _ (_O fQ),bb! (bb! (d1.trans d2) d3) d4⟩;simp only[ux,Mof,z4Q,st,_i,_k,_v];rw[zn q1,zn q2,zn q3,zn (by
  have g:z2t [M!] s2=bp! (bJ! v):=by rfl
  have c1:aZ!+1<=cap:=by simp[cap];lia
  have c2:aZ!+1+W.length<=cap:=by simp[cap];lia
  have c3:aZ!+W.length<=cap:=by simp[cap];lia
  have c4:ez! 1<=cap:=by decide
  have c5:ez! 4<=cap:=by decide
  have key:∀(d g:D),dSl d a! (b! (j! k)) s2=bp! (n! T)->dSl d (b! (j! k+1)) a! s2=bp! (n! W)->z2t [d] s2=bp! g->z2L [F!,g!,bT!,l!,a!] s2=K! [F!,g!,bT!,l!,bg! [n! (T++[e]++W),n! (T++[e]++W),n! (T++W),g]] s2:=λd g x1 x2 x3=>by simp[x1,x2,x3,c1,c2,c3,c4,c5]
  exact key _ _ (sk s2) (l5 s2) g),zn q5,z2U,yo,yH];simp only[yh,_d,_c,Rb];rw[e4,Rb,iS,Rb]
end Pn
namespace Pm
theorem zjS(h:Lot n z)(he:ended z=d!):∃k,k<n/\jH! k=uk z/\0<uk z/\∀j,j≠k->jH! j=0:=by
 have l1:hr! z=1:=by simpa[ended] using he
 obtain⟨x,hx,x0⟩:=h.pos;obtain⟨k,hk,e⟩:=p3!;have gk:jH! k=x:=by simp[_b hk,e]
 have oth:∀j,j≠k->jH! j=0:=by
  intro j hj;apply _Y;intro hz;have l6:∀(v:List Int)(a b:Nat),a<b->bt! a≠0->fO!≠0->2<=hr! v:=by
   intro v;induction v with
   | nil=>intro a b _ h1;simp at h1 | cons y v ih=>
    intro a b l7 h1 h2;cases b with
    | zero=>lia | succ b=>
     have hb:fO!≠0:=by exact h2
     cases a with
     | zero=>
      have:1<=hr! v:=_bH.mpr λq=>by
       have:=q0! ⟨hj! (by
       apply _Y;intro q;exact hb (by simp[_K (qZ! q)])),hb⟩;rw[q]at this;cases this
      simp only[nz,_aw,(by simpa using h1),ne_eq,not_false_eq_true,_c7,_v,_i]at this ⊢;lia | succ a=>
      have:=ih a b (by lia) (by exact h1) hb;simp only[nz,_aw]at this ⊢;split;·simp only[_i];lia
      ·exact this
  rcases Nat.lt_or_gt_of_ne hj with q | q;·have:=l6 z j k q hz (by lia);lia
  ·have:=l6 z k j q (by lia) hz;lia
 have fS:z.sum=x:=by
  have:∀(v:List Int)(k:Nat),k<J!->(∀j,j≠k->bt! j=0)->v.sum=bt! k:=by
   intro v;induction v with
   | nil=>intro k hk;cases hk | cons y v ih=>
    intro k hk ho;cases k with
    | zero=>
     have:∀w:List Int,(∀j,w.getD j 0=0)->w.sum=0:=by
      intro w;induction w with
      | nil=>intro _;rfl | cons u w ihw=>
       intro hw;rw[_aD,(show u=0 from by exact hw 0),ihw λj=>by exact hw (j+1)];rfl
     rw[_aD,this v λj=>by exact ho (j+1) (by lia)];simp | succ k=>
     rw[_aD,ih k (by simpa using hk) λj hj=>by exact ho (j+1) (by lia),(show y=0 from by exact ho 0 (by lia))];simp
  rw[this z k hk oth,gk]
 rw[(ziU h he)]at fS;exact⟨k,by rw[<- h.len];exact hk,by rw[gk,fS],by lia,oth⟩
theorem z97:∀{r z:List Int}{k:Nat},aE!=pr!->(∀j,j≠k->jH! j=0)->dot r z=cT! k*jH! k
 | [],[],k,_,_=>by rfl | a::r,b::z,k,hl,h=>by cases k with
  | zero=>
   rw[dot_cons,(show ∀(r z:List Int),(∀j,jH! j=0)->dot r z=0 from by
    intro r;induction r with
    | nil=>cases z<;>simp[dot] | cons u r ih=>
     intro z hz;cases z with
     | nil=>rfl | cons y z=> rw[dot_cons,(show y=0 from by exact hz 0),ih z λj=>by exact hz (j+1)];simp) r z λj=>by exact h (j+1) (by lia)];simp | succ k=>
   rw[dot_cons,z97 (k:=k) (by simpa using hl) λj hj=>by exact h (j+1) (by lia),(show b=0 from by exact h 0 (by lia))];simp
 | [],_::_,_,h,_=>by cases h | _::_,[],_,h,_=>by cases h
theorem zac(g:Int):∀(v w:List Int),dot v (w.map λx=>x*g)=dot v w*g
 | [],_=>by simp[dot] | _::_,[]=>by simp[dot] | a::v,b::w=>by
  rw[_p,dot_cons,dot_cons,zac g v w];grind
theorem z6Y:∀v:List Int,0<=eq! v
 | []=>by decide | a::v=>by
  have:=z6Y v;have h:0<=a*a:=by
   rcases Int.le_total 0 a with q | q;·exact _bh q q
   ·exact _bR q q
  rw[dot_cons];lia
theorem zka(hn:ba!)(hx:x.length=n)(hk:k<n):mI! (x::q6! b0! k)=bE! (x.getD k 0):=by
 rcases hn with rfl | rfl | rfl
 ·obtain⟨a,b,rfl⟩:=z9F hx;match k,hk with
  | 0,_=>rw[zr8];simp[zd6,d2] | 1,_=>rw[zr8];simp[zd6,d2]
 ·obtain⟨a,b,c,rfl⟩:=z88 hx;match k,hk with
  | 0,_=>rw[zp7];simp[zb7 1,d3,d2] | 1,_=>rw[zp7];simp[zb7 1,d3,d2] | 2,_=>rw[zp7];simp[zb7 1,d3,d2]
 ·obtain⟨a,b,c,d,rfl⟩:=z6Q hx;match k,hk with
  | 0,_=>rw[zoq];simp[zcs 0,d4,d3,d2] | 1,_=>rw[zoq];simp[zcs 0,d4,d3,d2] | 2,_=>rw[zoq];simp[zcs 0,d4,d3,d2] | 3,_=>rw[zoq];simp[zcs 0,d4,d3,d2]
theorem zcW(hB:ff! B)(hv:J!=n)(hk:k<n):ff! (v::B.eraseIdx k):=by
 refine⟨?_,cO! ?_⟩;·rw[_i,List.length_eraseIdx_of_lt (by rw[hB.len];exact hk),hB.len];lia
 ·rcases dE! hr with rfl | hr;·exact hv
  ·exact hB.row r (List.mem_of_mem_eraseIdx hr)
theorem zb4{α β:b4!}(f:α->β):∀(l:List α)(k:Nat),(l.eraseIdx k).map f=q6! mU! k
 | [],_=>by rfl | a::l,0=>by rfl | a::l,k+1=>by simp[zb4 f l k]
theorem zjy(hn:ba!)(hP:ff! P)(hf:z0P P)(hv:J!=n)(hz:pr!=n)(hk:k<n)(g0:0<g)(e:mv P z=v)(zk:jH! k=g)(zo:∀j,j≠k->jH! j=0): j! (mI! (v::q6! (gP! P) k))*g=eq! v:=by
 have tM:=zcW (z1x hP) hv hk;have bm:=(z7H hn hP hf).1;rw[z2D hn (z1x hP) hP]at bm;have du:=zka hn (show v! (z67 P v)=n from by simp[z67,ym,hP.len]) hk;rw[<- (show kr (v::q6! (gP! P) k) P=z67 P v::q6! b0! k from by rw[z2D hn tM hP,_p,zb4,bm]),(zeI hn tM hP)]at du;have xk:bd! (z67 P v) k=dot v (P.map λr=>cT! k):=by simp[z67,ym,(show k<P.length from by rw[hP.len];exact hk)]
 have xg:bd! (z67 P v) k*g=eq! v:=by rw[xk,<- zac,<- (show v=(P.map λr=>cT! k).map λx=>x*g from by
  rw[<- e,_ak];refine _a0 (cO! ?_);rw[z97 (by rw[hP.row r hr,hz]) zo,zk];rfl)]
 have nn:=z6Y v;rw[(show mI! (v::q6! (gP! P) k)=bE! (bd! (z67 P v) k) from by
  rw[<- du];rcases hf with q | q<;>rw[q]<;>simp),_bA (by
  apply _Y;intro q;have:bd! (z67 P v) k*g<0:=_a6 (by lia) g0;lia),xg]
theorem zbA{α:b4!}{f:α->Int}:∀{L:List α}{k:Nat}{g:Int},k<aA!->g≠0->bd! (on! f) k=g->(∀j,j≠k->bd! (on! f) j=0)-> L.filter (λx=>a5! (f x=0))=L.eraseIdx k/\∃b,G! L k b/\L.filter (λx=>ci! (f x) 0)=[b]
 | [],k,g,h,_,_,_=>by cases h | a::L,0,g,_,g0,e,o=>by
  have fa:f a=g:=by exact e
  have zsA:∀x∈L,f x=0:=by
   intro x hx;obtain⟨i,hi,rfl⟩:=p3!;simpa[hi] using (o (i+1) (by lia))
  refine fH! (by simp[fa,g0,(_bI.mpr (ah! (by simp[zsA x hx])):L.filter (λx=>a5! (f x=0))=L)]) a ?_;rw[_aw,(_bm.mpr (ah! (by simp[zsA x hx])))];simp[fa,g0] | a::L,k+1,g,h,g0,e,o=>by
  have fa:f a=0:=by exact o 0 (by lia)
  obtain⟨i1,b,i2,i3⟩:=zbA (by simpa using h) g0 (by exact e) λj hj=>by exact o (j+1) (by lia)
  refine⟨by simp[fa,i1],b,by exact i2,?_⟩;rw[_aw,i3];simp[fa]
end Pm
namespace Pg
open L2 Dd Pm
theorem vr(h:am! ρ g!):zd i ρ s=i! d:=by rw[yh,h]
theorem zdF(h:t ρ s=i! t!):fIf t f g ρ s=g ρ s:=by rw[z6U,h,Rb,_o (by decide)]
theorem zrd(h:t ρ s=i! t!)(h2:u ρ s=i! t!):fOr t u ρ s=i! t!:=by rw[zai,h,Rb,_o (by decide),h2]
theorem vz(h:ay!=aV! b):tOf f ρ s=i! b:=by rw[jt,h];rfl
theorem zdH(h:t ρ s=kY!):jJ t ρ s=i! t!:=by rw[jR,h];rfl
theorem zhs(hv:fo!)(hu:py!=n)(hb:∀y∈u,y.natAbs<2 ^ k)(hm:m<=bF!)(hk:k<=bF!)(s:Sto):ud [M!,rD u,c! x] s=aV! (a5! (eq! u=x)):=by
 have w2 := z4k s hb hv.abs hk hm (by have:=hv.sz;lia);have key:hL! (zQ [e,c! n] s=cj!->wd [e,d] s=x! (eq! u)->yF [d] s=x! n->ud [d,e,c! x] s=aV! (a5! (eq! u=x))):=λd e a1 a2 a3=>by simp[ud,Mof,z3N,zy,a1,a2,a3]
 exact key _ _ (by
  have:=z0S u s (by have:=hv.sz;lia);rw[hu]at this;exact this) w2 (by simp[yF,zW,hv.len])
structure Sh(r:Rl)(n:Nat)(v:h!)(ls:f2!)(z:h!)(k:Nat)(B:Tb)(b:h!):k! where
 run:gf! v
 len:o6!
 last:ls.getLast? = b! z
 lot:Lot n z
 kn:k<n
 zk:jH! k=b3!
 zo:∀j,j≠k->jH! j=0
 g0:0<b3!
 B_:B=gP! hC!
 tab:ff! B
 bd:Bd 318 B
 fair:z0P hC!
 ptab:ff! hC!
 pbd:Bd 104 hC!
 mvB:mv B v=z
 at_:G! B k b
 fz:B.filter (λx=>a5! (eq! x=0))=B.eraseIdx k
 fn:B.filter (λx=>ci! (eq! x) 0)=[b]
 det:j! (bE! (Pm.det 4 (v::B.eraseIdx k)))*b3!=eq! v
theorem ztz(r:Rl)(h:jJ!):∃ls z k B b,Sh r n v ls z k B b:=by
 obtain⟨ls,Rn,ll⟩:=zmo (20*104+3) v ei! (zrW (r:=r) h.toLot h.toN);obtain⟨z,lz,ez,Lz,gz,PZ⟩:=Rn.whole ei! (cs! (by have:=h.bd y hy;lia):∀y∈v,y<=2 ^ 104-1);obtain⟨k,hk,zk,g0,zo⟩:=zjS Lz ez;rw[gz]at zk g0;have l8:Bd 104 hC!:=znH PZ (by lia);have n4:2<=v! hC!/\v! hC!<=4:=by have:=PZ.tab.len;have:=h.sz;lia
 have tB:=z1x PZ.tab;have o7 := zmY l8 n4.1 n4.2 su!;have mB:mv (gP! hC!) v=z:=by
  have:=znj ju! PZ.tab su! Lz.len;rw[PZ.eq]at this;exact this
 have ma:(gP! hC!).map (λx=>eq! x)=z:=mB;obtain⟨f1,b,f2,f3⟩:=zbA (g:=b3!) (by rw[tB.len];exact hk) (by lia) (by rw[ma];exact zk) (λj hj=>by rw[ma];exact zo j hj);exact⟨ls,z,k,_,b,Rn,by lia,lz,Lz,hk,zk,zo,g0,rfl,tB,o7,su!,PZ.tab,l8,mB,f2,f1,f3,zjy ju! PZ.tab su! h.len Lz.len hk g0 PZ.eq zk zo⟩
section
variable {n:Nat}{v:h!}{r:Rl}{ls:f2!}{z:h!}{k:Nat}{B:Tb}{b:h!}
theorem ze0(h:jJ!) (S:Sh r n v ls z k B b) (s:Sto):∀x∈B,wd [rD x,M!] s=x! (eq! x):=ah! (z4k s (S.bd x hx) h.abs (by decide) (by decide) (by have:=S.tab.row x hx;have:=h.sz;lia))
end
end Pg
namespace Pg
open L2 Dd Pm
theorem zfh{α:b4!} (g:α->D)(P:Sto->k!)(Q:D->k!):∀(l:List α)(acc:List D)(s:Sto),(∀a∈l,∀s,P s->∃y s',body (g a) s=bj! (b! y)/\Q y/\P s')->h9!+iL!<=cap->P s->(∀y∈acc,Q y)->∃ys s',qu [] all dF! kg! acc s=bj! ys/\c9!=h9!+iL!/\(∀y∈ys,Q y)/\P s'
 | [],acc,s,_,_,hP,hQ=>⟨acc,s,by simp[qu,okG],by simp,hQ,hP⟩ | x::xs,acc,s,hb,hl,hP,hQ=>by
  obtain⟨y,s1,e,hy,o8⟩:=hb x (by simp) s hP;obtain⟨ys,s2,e2,h1,h2,h3⟩:=zfh (all:=all) g P Q xs (acc++[y]) s1 (λa ha=>hb a (by simp[ha])) (by simp at hl ⊢;lia) o8 (by
   intro z hz;rcases l9! hz with hz | hz;·exact hQ z hz
   ·simp at hz;rw[hz];exact hy);refine⟨ys,s2,?_,by simp at h1 ⊢;lia,h2,h3⟩;rw[_p,qu,_h (by intro p hp;simp at hp),e];have hc:h9!<cap:=by simp at hl;lia
  simp[hc,e2]
theorem zn6{α:b4!} (g:α->D) (ev:α->Ev) (P:Sto->k!) (Q:D->k!) (l:eX!) (hi:fi ρ s=.ok (kg!,[]) s0) (hg:∀a∈l,∀s,fg (g a) jb! s=i! (ev a)) (he:∀a∈l,∀s,P s->∃y s',fe (ev a) s=bj! y/\Q y/\P s') (hl:iL!<=cap) (hP:P s0): ∃ys s',zv fi mp fg zU fe ρ s=bj! hW!/\c9!=iL!/\(∀y∈ys,Q y)/\P s':=by
 obtain⟨ys,s',e,h1,h2,h3⟩:=zfh (all:=kg!) (body:=λd s=>A! (fg d jb! s) (fun ρ' s1=>A! (zU ρ' s1) (λt s2=>aF! t (A! (fe ρ' s2) (λy s3=>gz! (b! y))) (bp! a!)))) g P Q l [] s0 (λa ha s hP=>by
  obtain⟨y,s',e,hq,hp⟩:=he a ha s hP;exact⟨y,s',by simp[hg a ha s,e],hq,hp⟩) (by simpa using hl) hP (by simp);refine⟨ys,s',?_,by simpa using h1,h2,h3⟩;rw[uh,uJ,hi,Dd.R.bind_ok];rw[e];rfl
theorem qZ{ar:FA}{ρ:Ev}{s s1:Sto}{n:Nat}(hn:dn! n)(h:ar ρ s=P! [c! n]):jW ar ρ s=P! (aP! n (fD! (ab! k)),[]):=by
 rw[zeT,h,Dd.R.bind_ok];simp only;rw[bP! (by lia) (by lia)];rfl
end Pg
namespace Pn
open L2 Dd Pm Pg
def vp(n:Nat):eG! D
 | .tup ys=>fh! c9! n&&ys.all isI | _=>false
theorem z2I{n:Nat}(hk:Kd x)(hn:dn! n)(s:Sto):zQ [x,c! n] s=aV! (vp n x):=by cases x with
 | tup ys=>
  by_cases h:c9!=n
  ·subst h;rw[z39 hk s hn];simp[vp]
  ·simp[zQ,Mof,qO,zy,gIs,tyD,isT,yF,zW,(show ¬ (j! c9!=n) from by lia),vp,h] | scr _=>exact hk.elim | _=>
  have hd:=hk.ty;first
  | (simp[tyD]at hd;done) | rfl
structure Tn(m:Nat)(d:D):k! where
 ty:gZ! d
 it:∀xs,d=ap!->∀x∈xs,Bn m x
theorem Tn.tup{m:Nat}{xs:D!}(h:∀x∈xs,Bn m x):Tn m ap!:=fc! (λys e x hx=>by cases e;exact h x hx)
theorem Tn.other(h:gZ! d)(hn:∀xs,d≠ap!):Tn m d:=⟨h,λxs e=>cN! e (hn xs)⟩
theorem Bn.up(h:Bn m d)(hk:m<=k):Bn k d:=⟨h.kd,λxs i e hi=>_j (h.bd xs i e hi) (_A (by decide) hk)⟩
theorem za6:LeM yP z11:=mm! (r0! LeS.fNo)
theorem zmx(s:Sto) (hm:m<=bF!) (hk:k<=bF!):∀(ps:List (Int×Int)) (aD:Int) (all:List D) (a b:Option D),(∀p∈ps,bE! p.1<2 ^ m/\bE! p.2<2 ^ k)-> ∃a' b',yU [] all (eA! (yT 5 6 d ρ s) (jf ρ' s')) (ow! (iT! (cU! p.1 p.2))) [t,v,f,ln,e! aD,a,b] s=aW! [t,v,f,ln,e! (aD+(ow! (λp=>p.1*p.2)).sum),a',b']
 | [],aD,all,a,b,_=>⟨a,b,by simp[yU,okG]⟩ | p::ps,aD,all,a,b,h=>by
  obtain⟨h1,h2⟩:=h p (by simp);obtain⟨a',b',ih⟩:=zmx (t:=t) (v:=v) (f:=f) (ln:=ln) s hm hk ps (aD+p.1*p.2) all (e! p.1) (e! p.2) λq hq=>h q (by simp[hq]);refine aN! a' b' ?_;rw[_p,yU,_h (by intro p hp;cases hp),z9y,Rb];simp only[_E,_B];rw[(show jf [t,v,f,ln,e! aD,e! p.1,e! p.2] s=aW! [t,v,f,ln,e! (aD+p.1*p.2),e! p.1,e! p.2] from by simp[(z0y s h1 hm h2 hk)])];simp only[_p,_aD];rw[<- Int.add_assoc];exact ih
theorem ziS(r v:h!):(kb! r v (λp=>p.1*p.2)).sum=eq! r:=by unfold dot;rw[zw]
theorem zmP{s:Sto} : (s++[x]).set ct! y=s++[y]:=by simp
noncomputable abbrev ztn:D->Ev->f4! Fl:=eA! (yg 3 d ρ s) ((a3! vV uc wK) ρ' s')
theorem zlk(a3 a4 a5 a6:fG!) (hv:z94 (s++ld!) v=b! (iL vs,[])) (hr:∀x∈r,c7! m) (eB:∀x∈vs,c7! k) (hm:m<=bF!) (hk:k<=bF!) (ha:h9!<fv!): ∃b4 b5 b6,ztn (rD r) [en!,bB!,Q!,a3,a4,a5,a6] (s++ld!)=K! [en!,bB!,Q!,bu! r,b4,b5,b6] (s++bK! (acc++[dot r vs])):=by
 obtain⟨a',b',lp⟩:=zmx (t:=en!) (v:=bB!) (f:=Q!) (ln:=bu! r) (m:=m) (k:=k) (s++ld!) hm hk (pA! r vs) 0 (z4I (iL r) (iL vs)) a5 a6 (bs! ⟨hr _ (l2!).1,eB _ (l2!).2⟩);refine⟨e! (dot r vs),a',b',?_⟩;rw[show ztn (rD r) [en!,bB!,Q!,a3,a4,a5,a6] (s++ld!)=zA vV (zA uc wK) [en!,bB!,Q!,bu! r,a4,a5,a6] (s++ld!) from rfl];have f3:vV [en!,bB!,Q!,bu! r,a4,a5,a6] (s++ld!)=K! [en!,bB!,Q!,bu! r,e! 0,a5,a6] (s++ld!):=rfl;rw[zn f3,zn (by
  rw[uc,jP,zht];simp only[zr,zK,yh,_c,_d,Rb,hv,show z94 (s++ld!) (rD r)=b! (iL r,[]) from rfl,_aK];rw[z9T]at lp ⊢;rw[ziS,Int.zero_add]at lp;exact lp),(show wK [en!,bB!,Q!,bu! r,e! (dot r vs),a',b'] (s++ld!)=K! [en!,bB!,Q!,bu! r,e! (dot r vs),a',b'] (s++bK! (acc++[dot r vs])) from by rw[wK,zmp (L:=s.length) (xs:=acc) (x:=dot r vs) (s2:=s++ld!) rfl rfl (by simp) ha,zmP])]
theorem zf0(hv:∀acc,z94 (s++ld!) v=b! (iL vs,[])) (eB:∀x∈vs,c7! k) (hm:m<=bF!) (hk:k<=bF!):∀(Rs acc:List (List Int)) (ac:List Int) (all:List D) (a3 a4 a5 a6:Option D),(∀r∈Rs,∀x∈r,c7! m)->ac.length+Rs.length<=fv!-> ∃b3 b4 b5 b6,yU [] all ztn (Rs.map rD) [en!,bB!,Q!,a3,a4,a5,a6] (s++bK! ac)=K! [en!,bB!,Q!,b3,b4,b5,b6] (s++bK! (ac++mv Rs vs))
 | [],acc,ac,all,a3,a4,a5,a6,_,_=>⟨a3,a4,a5,a6,by simp[yU,okG,mv]⟩ | r::Rs,acc,ac,all,a3,a4,a5,a6,h,hl=>by
  obtain⟨b4,b5,b6,e⟩:=zlk (T:=T) (v:=v) (r:=r) (vs:=vs) (m:=m) (k:=k) (s:=s) (acc:=ac) a3 a4 a5 a6 (hv ac) (h r (by simp)) eB hm hk (by simp at hl;lia);obtain⟨c3,c4,c5,c6,ih⟩:=zf0 hv eB hm hk Rs acc (ac++[dot r vs]) all (bu! r) b4 b5 b6 (λq hq=>h q (by simp[hq])) (by simp at hl ⊢;lia);refine⟨c3,c4,c5,c6,?_⟩;rw[_p,yU,_h (by intro p hp;cases hp),e,Rb];simp only[mv,_p]at ih ⊢;rw[ih,_b1,List.singleton_append]
theorem zsd(s:Sto) (hv:v=n! (iL vs)\/v=bJ! vs) (hA:Bd m A) (eB:∀x∈vs,c7! k) (hm:m<=bF!) (hk:k<=bF!) (hl:dn! qX!):vS [tD A,v] s=i! (rD (mv A vs)):=by
 obtain⟨b3,b4,b5,b6,lp⟩:=zf0 (T:=tD A) (λacc=>by rcases hv with rfl | rfl<;>rfl:∀acc,z94 (s++ld!) v=b! (iL vs,[])) eB hm hk A [] [] (A.map rD) none none none none hA (by simp;lia);have f1:z1n [ch! A,bB!,a!,a!,a!,a!,a!] s=K! [ch! A,bB!,Q!,a!,a!,a!,a!] (s++bK! []):=by rfl
 have f2:z1k [ch! A,bB!,Q!,a!,a!,a!,a!] (s++bK! [])=K! [ch! A,bB!,Q!,b3,b4,b5,b6] (s++bK! (mv A vs)):=lp;simp only[vS,z6V,Mof,z1U];rw[show zy ["_law_table_here",kI!,hK!,gm!,pt!,eh!,d0!] [tD A,v]=[ch! A,bB!,a!,a!,a!,a!,a!] from rfl];simp only[_i,_k,_v];rw[zn f1,zn f2,(show jb [ch! A,bB!,Q!,b3,b4,b5,b6] (s++bK! (mv A vs))=.ok (.rt (rD (mv A vs))) (s++bK! (mv A vs)) from by
  rw[jb,yo,yI (x:=mo!) p!];simp only[zV,zW,(show G! (s++bK! (mv A vs)) ct! (iL (mv A vs)) from by simp),Rb])];rw[zeO,List.take_left'];rfl
theorem zrh{B:Tb} {f g:FE} (s:Sto) (hd:d=n! (lD! rD)\/d=W! (lD! rD)) (hb:∀r∈B,aE!=n) (hj:j<n) (hl:dn! B.length) (hf:ay!=i! d) (hm:jb!=[e! (j! j),a!]): zv (zP f) mp (yg 1) zU (bl! 0) ρ s=i! (bJ! (lD! (λr=>cT! j))):=by rw[comp_map (fi:=zP f) (mp:=mp) (fg:=yg 1) (fe:=bl! 0) (ρ:=ρ) (s:=s) rD (λr=>aK! (cT! j)) (λr=>[aY!,bu! r]) B (by rcases hd with rfl | rfl<;>simp[hf]) (λa _=>by rw[hm];rfl) (cO! (by
    have:=z8Y (xs:=iL r) (j:=j) (d:=c! (cT! j)) s (by simp[_C,_b (by rw[hb r hr];exact hj),List.getD]);exact this)) (by simp[cap];lia),show iL (lD! (λr=>cT! j))=lD! (λr=>aK! (cT! j)) by rw[iL,_ak];rfl]
theorem zq9(hb:∀r∈B,aE!=n)(hj:j<n)(hB:Bd k B):∀x∈(lD! (λr=>cT! j)),c7! k:=ah! (by
 obtain⟨r,hr,rfl⟩:=ho!;have md:j<aE!:=by rw[hb r hr];exact hj
 exact hB r hr _ (by rw[_n,_b md];exact _O md))
theorem zkH{dA dB:D} (s:Sto) (o9:dA=tD A) (pb:dB=n! (lD! rD)) (n4:n<=4) (ha:qX!=n) (pc:B.length=n) (hb:∀r∈B,aE!=n) (hA:Bd m A) (hB:Bd k B) (hm:m<=bF!) (hk:k<=bF!): zv (ep! 2) (fm! 0 1) (yg 2) zU (dx! vS (iS! (zP r!) (ad! 2) 1 (bl! 0))) (fd! dA dB aC!) s=bA! (eB! ((ym B).map (mv A))):=by
 rw[comp_map (λj:Nat=>aK! j) (λj=>rD (mv A (lD! (λr=>cT! j)))) (λj=>[b! dA,b! dB,aY!]) iO! (qZ (by lia) (by rfl)) (λa _=>by rfl) (λj hj=>?_) (by simp[cap];lia)];·rw[ym,pc,_ak,_ak];rfl
 ·have gE:j<n:=by simpa using hj
  rw[call2 (x:=dA) (y:=bJ! (lD! (λr=>cT! j))) rfl (zrh (f:=r!) (g:=q!) (mp:=ad! 2) (ρ:=[b! dA,b! dB,aY!]) s (z! pb) hb gE (by lia) rfl rfl),o9];exact zsd s (T! rfl) hA (zq9 hb gE hB) hm hk (by lia)
theorem zk4{S:Tb} {dA dB dS:D} (s:Sto) (pd:dS=W! (S.map rD)) (n4:n<=4) (lS:q7!=n) (rS:∀r∈S,aE!=n): zv (ep! 2) (ad! 3) (yg 1) zU (dj! cW! cb! 1 (bl! 0)) [b! dA,b! dB,aC!,b! dS] s=bA! (eB! (ym S)):=by
 rw[comp_map (λj:Nat=>aK! j) (λj=>rD (S.map λr=>cT! j)) (λj=>[b! dS,aY!]) iO! (qZ (by lia) (by rfl)) (λa _=>by rfl) (λj hj=>?_) (by simp[cap];lia)];·rw[ym,lS,_ak];rfl
 ·rw[yI (zrh (f:=q!) (g:=q!) (mp:=cb!) (ρ:=[b! dS,e! (j! j)]) s (T! pd) rS (by simpa using hj) (by lia) rfl rfl)];rfl
theorem zql{n:Nat}{dA dB dS:D} (s:Sto)(g1:yF [dA] s=x! n) (c2:zv (ep! 2) (fm! 0 1) (yg 2) zU (dx! vS (iS! (zP r!) (ad! 2) 1 (bl! 0))) (fd! dA dB aC!) s=i! dS) (c3:zv (ep! 2) (ad! 3) (yg 1) zU (dj! cW! cb! 1 (bl! 0)) [b! dA,b! dB,aC!,b! dS] s=i! bH!):wP [dA,dB] s=i! ap!:=by
 have st:zy [eh!,d0!,fV!,qS!] [dA,dB]=fd! dA dB a!:=rfl;have f3:vx [b! dA,b! dB,aC!,b! dS] s=i! (.rt ap!):=by rw[vx,yo,yI c3];rfl
 simp only[wP,Mof,ju,st,_i,_k,_v];rw[zn (show vA (fd! dA dB a!) s=aW! (fd! dA dB aC!) from by rw[vA,zR,yI (x:=dA) p!,g1];rfl),zn (show vC (fd! dA dB aC!) s=aW! [b! dA,b! dB,aC!,b! dS] from by rw[vC,zR,c2];rfl),f3]
theorem znm(s:Sto)(hn:ba!)(ha:iw!)(hb:ff! B)(hA:Bd m A)(hB:Bd k B)(hm:m<=bF!)(hk:k<=bF!):wP [tD A,tD B] s=g4! (kr A B):=by
 have n4:n<=4:=by lia
 exact zql s (by simp[yF,zW,ha.len]) (zkH s rfl rfl n4 ha.len hb.len hb.row hA hB hm hk) (zk4 (S:=(ym B).map (mv A)) s rfl n4 (by simp[ym,hb.len]) (cO! (by
  obtain⟨c,_,rfl⟩:=ke!;simp[mv,ha.len])))
theorem zcl{lt lt':Nat->k5!}(h:∀i j,i<n->j<n->lt i j=lt' i j):∀t:W.KasT α,d8! n t=kev n lt' t
 | .ret a=>rfl | .ask i j k=>by
  unfold kev;split
  ·rename_i aJ;rw[h i j aJ.1 aJ.2];exact zcl h _
  ·rfl
def mt(a b c d e f:Bool):Nat->k5!
 | 0,1=>a | 0,2=>b | 0,3=>c | 1,2=>d | 1,3=>e | 2,3=>f | 1,0=>!a | 2,0=>!b | 3,0=>!c | 2,1=>!d | 3,1=>!e | 3,2=>!f | _,_=>false
noncomputable def trn(n:Nat)(lt:Nat->k5!):Bool:=(iO!).all λi=>(iO!).all λj=>(iO!).all λk=>!(lt i j&&lt j k)||lt i k
noncomputable def gud(n:Nat)(lt:Nat->k5!):Bool:=match d8! n sD! with
 | none=>false | some p=>a5! (qJ! iO!)&&a5! (rP! (dk! i j))
theorem zvB:∀a b c d e f:Bool,trn 2 (mt a b c d e f)=d!->gud 2 (mt a b c d e f)=d!:=by decide +kernel
theorem zwa:∀a b c d e f:Bool,trn 3 (mt a b c d e f)=d!->gud 3 (mt a b c d e f)=d!:=by decide +kernel
theorem zvw:∀a b c d e f:Bool,trn 4 (mt a b c d e f)=d!->gud 4 (mt a b c d e f)=d!:=by decide +kernel
theorem z7O{lt lt':Nat->k5!}(h:∀i j,i<n->j<n->lt i j=lt' i j)(g:gud n lt'=d!):∃p,d8! n sD!=b! p/\qJ! iO!/\rP! (dk! i j):=by
 unfold gud at g;rw[<- zcl h]at g;cases e:d8! n sD! with
 | none=>rw[e]at g;cases g | some p=>
  rw[e]at g;simp only[_R,_ax]at g;refine mH! p g.1 (List.Pairwise.imp_of_mem (λ{i j} hi hj q=>?_) g.2);rw[h i j (_aL.mp (g.1.mem_iff.mp hi)) (_aL.mp (g.1.mem_iff.mp hj))];exact q
theorem zg6(h2:2<=n)(h4:n<=4)(pf:∀i,lt i i=t!)(aD:∀i j,i<n->j<n->i≠j->lt j i=! lt i j)(tr:∀i j k,dk! i j->dk! j k->dk! i k): ∃p,d8! n sD!=b! p/\qJ! iO!/\rP! (dk! i j):=by
 have eD:∀i j,i<n->j<n->lt i j=mt (lt 0 1) (lt 0 2) (lt 0 3) (lt 1 2) (lt 1 3) (lt 2 3) i j:=λi j hi hj=>by
  have me:i=0\/i=1\/i=2\/i=3:=by lia
  by_cases e:i=j
  ·subst e;rw[pf];rcases me with rfl | rfl | rfl | rfl<;>rfl
  ·have q:=aD j i hj hi (λz=>e jn!);rcases me with rfl | rfl | rfl | rfl<;>rcases (show j=0\/j=1\/j=2\/j=3 from by lia) with rfl | rfl | rfl | rfl<;>first | exact gt! e | rfl | exact q
 have tm:trn n (mt (lt 0 1) (lt 0 2) (lt 0 3) (lt 1 2) (lt 1 3) (lt 2 3))=d!:=by
  simp only[trn,_P,_aL];intro i hi j hj k hk;rw[<- eD i j hi hj,<- eD j k hj hk,<- eD i k hi hk];cases a:lt i j<;>cases b:lt j k<;>simp;exact tr i j k a b
 rcases (show n=2\/n=3\/n=4 from by lia) with rfl | rfl | rfl;·exact z7O eD (zvB _ _ _ _ _ _ tm)
 ·exact z7O eD (zwa _ _ _ _ _ _ tm)
 ·exact z7O eD (zvw _ _ _ _ _ _ tm)
theorem zh3(p:Int×Int):om! p p=t!:=by simp[Dd.lexLt]
theorem znJ{p q:Int×Int}(h:p≠q):om! q p=! om! p q:=by
 obtain⟨a,b⟩:=p;obtain⟨c,d⟩:=q;simp only[Dd.lexLt];by_cases e:a=c
 ·subst e;have:b≠d:=λz=>h (by rw[z]);simp only[_v,this,this.symm,_aU];by_cases l:b<d;·simp[l];lia
  ·simp[l];lia
 ·have e':¬ c=a:=λz=>e jn!;simp only[e,e',_aU];by_cases l:a<c;·simp[l];lia
  ·simp[l];lia
theorem zh0: Dd.lexLt p q=d! ↔ p.1<q.1\/(p.1=q.1/\p.2<q.2):=by
 obtain⟨a,b⟩:=p;obtain⟨c,d⟩:=q;simp only[Dd.lexLt];by_cases e:a=c
 ·subst e;by_cases e2:b=d
  ·subst e2;simp
  ·simp[e2]
 ·simp[e]
theorem zqz(h:Dd.lexLt p q=d!)(h':Dd.lexLt q r=d!):Dd.lexLt p r=d!:=by
 rw[zh0]at *;lia
noncomputable abbrev pD(p:Int×Int):D:=n! (cU! p.1 p.2)
theorem z8K:∀ps:List (Int×Int),z4K (ow! pD)=b! ps
 | []=>rfl | p::ps=>by simp[z4K,z8K ps]
theorem zco(h2:2<=a2!) (h4:a2!<=4) (nd:ps.Nodup) (s:Sto): ∃qs:List (Int×Int),z3P [W! (ow! pD)] s=bA! sN!/\qs.Perm ps/\qs.Pairwise λa b=>Dd.lexLt a b=d!:=by
 obtain⟨p,e,pm,pw⟩:=zg6 (n:=ps.length) (lt:=λi j=>Dd.lexLt (gv! (0,0)) (o3! (0,0))) h2 h4 (λi=>zh3 _) (λi j hi hj aJ=>znJ λz=>aJ (by
  rw[_n,_n,_b hi,_b hj]at z;exact (_a1 nd).mp (by simpa using z))) (λi j k a b=>zqz a b);have cv:∀i∈p.toList,i<a2!:=fb! (_aL.mp (pm.mem_iff.mp hi));refine⟨j6! (gv! (0,0)),?_,?_,?_⟩
 ·have em:(j6! ((ow! pD).getD i an!))=(j6! (gv! (0,0))).map pD:=by
   rw[_ak];refine _a0 (fb! ?_);simp[_n,(cv i hi)]
  simp only[z3P,Dd.listOf,z8K,_X];rw[bP! h2 (by lia),e];simp only;rw[bP! (by simpa using (show p.toList.all (λi=>a5! (i<v! (ow! pD)))=d! from by
   rw[_P];intro i hi;simpa using cv i hi)) (by rw[pm.length_eq,List.length_range]),em]
 ·refine bb! (pm.map λi=>gv! (0,0)) ?_;rw[(show aP! a2! (λi=>gv! (0,0))=ps from by
   apply _aR;·simp
   ·intro i h1 h2;simp[_n,h2])]
 ·rw[List.pairwise_map];exact pw
end Pn
namespace Pm
open L2 (maxL minL maxL_ge maxL_mem minL_le minL_mem)
noncomputable abbrev enP(v:h!):gr! Int Nat:=v.zipIdx
noncomputable def zbp(v:h!):mY!:=(mO! (enP v) (dO! 0 p.1)).map λp=>(p.1,j! p.2)
theorem zdP: p∈enP v ↔ G! v p.2 p.1:=List.mem_zipIdx_iff_getElem?
theorem z1z: a∈zbp v ↔ ∃i:Nat,a.2=i/\am! v a.1/\0<a.1:=by
 unfold zbp;simp only[_t,_bq,_ax];constructor
 ·rintro⟨p,⟨hp,h0⟩,rfl⟩;exact mH! p.2 (zdP.mp hp) h0
 ·rintro⟨i,e,g,h0⟩;exact⟨(a.1,i),⟨zdP.mpr g,h0⟩,by rw[<- e]⟩
theorem zhe: ∀{v:List Int}{i:Nat},am! v x->qY! x<=i
 | [],i,h=>by simp at h | y::v,0,h=>by
  simp only[_c,_y]at h;subst h;simp | y::v,i+1,h=>by
  simp only[_d]at h;have:=zhe h;rw[List.idxOf_cons];cases y==x<;>simp<;>lia
theorem getD_get{v:h!} (h:fp!):am! v b1!:=by simp[_n,h]
theorem zeE{w:h!}{qs:mY!}(hw:∀x∈w,0<=x)(hn:nz w≠[])(hm:∀a,a∈qs ↔ a∈zbp w)(pw:qs.Pairwise λa b=>Dd.lexLt a b=d!):∃kH,qs=(i0! w,j! (lp w))::kH:=by
 obtain⟨l1,l2,l3⟩:=zdr hn;have cv:(i0! w,j! (lp w))∈zbp w:=z1z.mpr ⟨lp w,rfl,by rw[pE! l1,l2],(by
  have:=hw _ (r5! hn).1;lia)⟩;cases qs with
 | nil=>exact cN! ((hm _).mpr cv) (by simp) | cons a kH=>
  refine aw! kH ?_;obtain⟨i,e,g,h0⟩:=z1z.mp ((hm a).mp in!);have rn:=minL_le _ (q0! ⟨_x g,by lia⟩);rcases dE! ((hm _).mpr cv) with z | z;·rw[z]
  ·have lx:=Pn.zh0.mp ((List.pairwise_cons.mp pw).1 _ z);simp only at lx;rcases lx with q | ⟨q,q2⟩;·lia
   ·have:w.idxOf a.1<=i:=zhe g;rw[q]at this;have e2:lp w=w.idxOf (i0! w):=rfl;lia
theorem z7X{n:Nat}{v:h!}(h:aH!)(a:Int×Int):a∈zbp c2! ↔ a∈zbp v/\a.2≠j! a9!:=by
 have ne:=h.ne;rw[z1z,z1z];constructor
 ·rintro⟨i,e,g,h0⟩;have hi:i<v! c2!:=(cV! g);rw[pE! hi,_y,(uM ne i)]at g;split at g;·lia
  ·rw[wQ ne]at hi;exact⟨⟨i,e,by rw[pE! hi,g],h0⟩,by lia⟩
 ·rintro⟨⟨i,e,g,h0⟩,hg⟩;have hi:fp!:=cV! g;rw[pE! hi]at g;refine⟨i,e,?_,h0⟩;rw[pE! (by rw[wQ ne];exact hi),uM ne i,_o (by lia),g]
theorem z7h(h:aH!):∀x∈c2!,0<=x:=ah! (by
 rw[others_eq eQ!]at hx;rcases _z hx with q | q;·exact h.nn x q
 ·lia)
theorem znS{qs:mY!}(hw:∀x∈w,0<=x)(hn:nz w≠[])(hm:∀a,a∈qs ↔ a∈zbp w):a1! sv!/\jW! sv!=jW! w/\0<jW! w:=by
 obtain⟨y,hy⟩:=List.exists_mem_of_ne_nil _ hn;obtain⟨y1,y2⟩:=qF.mp hy;have p0:0<jW! w:=by
  have:=hw y y1;have:=maxL_ge (xs:=w) y y1;lia
 obtain⟨i1,i2⟩:=zbR (kG! (λz=>hn (by rw[z];rfl):a1! w));have fT:jW! w∈sv!:=_t.mpr (ca! ((hm _).mpr (z1z.mpr (mH! _ (by rw[pE! i1,i2]) p0)):(jW! w,j! (w.idxOf (jW! w)))∈qs));have ne:a1! sv!:=List.ne_nil_of_mem fT;refine aN! ne ?_ p0;have h1:=oh! _ fT;obtain⟨a,ha,e⟩:=_t.mp (kG! ne);obtain⟨i,_,g,_⟩:=z1z.mp ((hm a).mp ha);have h3:=maxL_ge (xs:=w) a.1 (_x g);lia
theorem zf9{w:h!} (hk:k∈w) (p:k5!) (hp:∀i,i<pF!->p i=a5! (w.getD i 0=k)):∃kH,lj! (iC! pF!) p=w.idxOf k::kH:=by
 obtain⟨i1,i2⟩:=zbR hk;have hd:=List.head?_filter (p:=p) (l:=iC! pF!);rw[(show (iC! pF!).find? p=b! (w.idxOf k) from by
  rw[List.find?_range_eq_some];refine⟨by rw[hp _ i1,i2];simp,by simpa using i1,λj hj=>?_⟩;rw[hp j (by lia)];simp only[Bool.not_eq_true',decide_eq_false_iff_not];intro z;have:=zhe (v:=w) (i:=j) (x:=k) (by rw[pE! (by lia),z]);lia)]at hd;cases e:lj! (iC! pF!) p with
 | nil=>rw[e]at hd;simp at hd | cons a kH=>
  rw[e]at hd;simp only[List.head?_cons,_y]at hd;exact⟨kH,by rw[hd]⟩
noncomputable def zgV(v:h!)(z:Int)(ps:jD!)(xs:h!):h!:=ps.foldl (λxs p=>iB! p (bt! p / z)) xs
theorem zeS(v:h!)(z:Int):∀(ps:List Nat)(xs:List Int),v! (zgV v z ps xs)=w!
 | [],xs=>rfl | p::ps,xs=>by simpa[zgV] using (zeS v z ps (iB! p (bt! p / z)))
theorem zeR(v:h!)(z:Int):∀(ps:List Nat)(xs:List Int)(i:Nat),i<w!->bd! (zgV v z ps xs) i=al! (i∈ps) (b1! / z) (xs.getD i 0)
 | [],xs,i,_=>by simp[zgV] | p::ps,xs,i,hi=>by
  have e:zgV v z (p::ps) xs=zgV v z ps (iB! p (bt! p / z)):=rfl;rw[e,(zeR v z ps (iB! p (bt! p / z)) i (by simpa using hi))];by_cases q:i∈ps;·simp[q]
  ·by_cases q2:i=p
   ·subst q2;simp[q,hi,_n]
   ·have q3:¬ p=i:=λz=>q2 jn!;simp[q,q2,_n,q3]
theorem z1E(v:h!)(b:Nat)(ps:jD!):zgV v fO! ps (lH! 0)=yX v (b,ps):=by
 apply _aR;·rw[zeS,xl];simp
 ·intro i h1 h2;have hi:fp!:=by rw[xl]at h2;exact h2
  have:=zeR v fO! ps (lH! 0) i (by simpa using hi);rw[_n,_b h1,_aE]at this;rw[this];simp[yX,hi]
theorem zha(v:h!)(b:Nat):yX v (b,[])=lH! 0:=by
 apply _aR;·rw[xl];simp
 ·simp[yX]
end Pm
namespace Pg
open L2 Dd Pm
section
variable {r F G:Int}{s:Sto}{l:Nat}
theorem z2W{fa fb fc:FE}{ρ:Ev}{s s1 s2:Sto}{L:Nat}{xs:D!}{i:Int}{d:D}(hc:fc ρ s=P! d)(ha:gF! s1=P! (.loc L))(hb:gb!=bp! Y!)(at_:G! s2 L xs)(h0:0<=i)(h1:i<w!)(hd:mQ!):z1g fa fb fc ρ s=K! ρ (og! L (iB! kD! d)):=by
 have e:kP! i=b! kD!:=by
  unfold ixN;rw[_h h0,_h (by lia)]
 rw[zir,hc,Rb,ha,Rb,hb,Rb];simp only[at_,e,hd,_v]
end
end Pg
namespace Po
open L2 Dd Pm Pg Pn
theorem zbe:∀(v:List Int)(k:Nat),z2E k br!=(v.zipIdx k).map (iT! (cU! (ab! p.2) p.1))
 | [],k=>rfl | x::v,k=>by simp[z2E,zbe v (k+1)]
theorem z9O{v:h!}{f:FE}{ρ:Ev}{s:Sto}(hf:ay!=i! M!):z2G (aU! f) ρ s=i! ((enP v).map (iT! (cU! (ab! p.2) p.1)),[]):=by simp only[z2G,zr,hf,Rb,zK,z94,zbe]
theorem zkh(h:∀x∈v,0<=x):v! (zbp v)=hr! v:=by
 simpa[zbp] using (show ∀(v:List Int)(k:Nat),(∀x∈v,0<=x)->v! (mO! (v.zipIdx k) (dO! 0 p.1))=hr! v from by
  intro v;induction v with
  | nil=>intro k _;rfl | cons x v ih=>
   intro k hx;have h0:=hx x in!;have ih:=ih (k+1) (cs! (hx y (.tail _ hy)));rw[_bC];by_cases q:x=0
   ·subst q;simpa[nz,_aw] using ih
   ·simp only[nz,_aw,(show 0<x from by lia),q,_c7,ne_eq,not_false_eq_true,_v,_i];simpa[nz] using ih) v 0 h
theorem znK(v:h!):(zbp v).Nodup:=by
 refine _c9 _ (λa b l7 z=>l7 ?_) (lj! (List.Pairwise.of_map (S:=λa b:Nat=>a≠b) Prod.snd (λa b h z=>h (by rw[z])) (by rw[List.zipIdx_map_snd];exact List.nodup_range'):(enP v).Nodup) _);simp only[_bs]at z;exact Prod.ext z.1 (by lia)
theorem zlr(h:aH!)(he:es!):2<=v! (zbp v)/\v! (zbp v)<=4:=by
 have l4:=h.le4;rw[zkh fX!];have h1:hr! v≠1:=by simpa[ended] using he
 have h2:hr! v≠0:=λz=>h.nzne (_aX.mp z);have h3:hr! v<=J!:=List.length_filter_le _ _;lia
theorem zjX(h:aH!) (he:es!) (ρ:Ev) (s:Sto) (h1:G! ρ 1 bk!): ∃qs:List (Int×Int),qQ ρ s=aW! (ρ.set 3 d4!)/\(∀a,a∈qs ↔ a∈zbp v)/\qs.Pairwise λa b=>Dd.lexLt a b=d!:=by
 have l2:=zlr h he;obtain⟨qs,e,pm,pw⟩:=zco l2.1 l2.2 (znK v) s;refine⟨qs,?_,λa=>pm.mem_iff,pw⟩;have l4:=h.le4;have c:=xK (s:=s) (mp:=iW!) (fg:=yT 0 1) (ft:=eT! dGt r! B!) (fe:=dD! r! q!) (λp:Int×Nat=>gN! (cU! p.2 p.1)) (λp=>pD (p.1,p.2)) (λp=>dO! 0 p.1) (λp=>[e! p.2,e! p.1]) (enP v) (z9O (vr h1)) (λp _=>by rfl) (λp _=>by rfl) (λp _ _=>by rfl) (by simp[enP,cap];lia);have em:List.map (λp:Int×Nat=>pD (p.1,p.2)) (mO! (enP v) (dO! 0 p.1))=(zbp v).map pD:=by simp[zbp,_L]
 rw[em]at c;rw[qQ,zR,yI c,e];rfl
theorem z7D{v:h!}{k:Nat}{kH:jD!}{f:FE}{ρ:Ev}{s:Sto}(hf:ay!=bA! (nL (k::kH))):hw! f B! ρ s=x! k:=by
 rw[yH,hf,Rb];exact kv! (_c0 _)
noncomputable abbrev EV(a0 a1 a2 a3 a4 a5 a6 a7 a8 a9 a10 a11 a12:fG!):Ev:=[a0,a1,a2,a3,a4,a5,a6,a7,a8,a9,a10,a11,a12]
structure LD(d:D)(v:h!):k! where
 eq:d=M!
 ix:∀(s:Sto)(i:Nat),fp!->c5! d i s=x! b1!
 mx:∀s:Sto,um [d] s=x! ip!
 len:∀s:Sto,yF [d] s=x! J!
theorem LD.of(h:aH!):LD M! v:=⟨rfl,λs i hi=>jz s hi,λs=>z92 s eQ!,λs=>by simp[yF,zW]⟩
section
variable {n:Nat}{v:h!}{d e:D}(h:aH!)(D:LD d v)(he:es!){a0 a1 a2 a3 a4 a5 a6 a7 a8 a9 a10 a11 a12:rs!}(s:Sto)
include h D
theorem zvA:z09 (EV a0 g! a2 a3 a4 a5 a6 a7 a8 a9 a10 a11 a12) s=aW! (EV a0 g! bz! a3 a4 a5 a6 a7 a8 a9 a10 a11 a12):=by
 rw[z09,zR,yI (x:=d) p!,D.len];rfl
theorem zvQ:z0c (EV a0 g! bz! a3 a4 a5 a6 a7 a8 a9 a10 a11 a12) s=aW! (EV a0 g! bz! a3 dy! a5 a6 a7 a8 a9 a10 a11 a12):=by
 have l4:=h.le4;obtain⟨kH,e⟩:=zf9 (w:=v) (kG! eQ!) (λi=>fh! b1! ip!) (λi _=>rfl);have c:=xK (s:=s) (mp:=cb!) (fg:=yg 1) (ft:=e9! (ce! 0 1) (bq! um)) (fe:=r!) (λi:Nat=>jZ! i) (λi:Nat=>jZ! i) (λi=>fh! b1! ip!) (λi=>[g!,e! i]) pP! (qZ (n:=v.length) (ρ:=EV a0 g! bz! a3 a4 a5 a6 a7 a8 a9 a10 a11 a12) (ar:=b6! 2) (by lia) (by rfl)) (λi _=>by rfl) (fb! (by simp only[jt,yH,yh,yi,zr,zK,_c,_d,Rb,(D.ix s i (by simpa using hi)),(D.mx s),zdv])) (λi _ _=>by rfl) (by simp[cap];lia);rw[e]at c;rw[z0c,zR,z7D (v:=v) c];rfl
end
def zlA(v:h!):Rl->D
 | .al=>c! dq! | .tu=>cL! | _=>an!
theorem zut(r:Rl)(s:Sto):dEq bv! k0! s=aV! (fh! r .le):=by
 rw[Pg.eq_str (zim r) (by decide +kernel)];congr 2;cases r<;>decide +kernel
theorem zrX(r:Rl)(s:Sto):dEq bv! k6! s=aV! (fh! r .nx):=by
 rw[Pg.eq_str (zim r) (by decide +kernel)];congr 2;cases r<;>decide +kernel
structure RD(e:D)(r:Rl):k! where
 eq:e=bv!
 le:∀s:Sto,dEq e k0! s=aV! (fh! r .le)
 nx:∀s:Sto,dEq e k6! s=aV! (fh! r .nx)
 tu:∀s:Sto,dEq e (aq! gi!) s=aV! (fh! r .tu)
 in_:∀s:Sto,zd4 t! e (n! [k6!,k0!]) s=aV! (a5! (r=.nx\/r=.le))
theorem RD.of(r:Rl):RD bv! r:=⟨rfl,zut r,zrX r,ziD r,λs=>by cases r<;>rfl⟩
section
variable {n:Nat}{v:h!}{d e:D}(h:aH!){a0 a1 a2 a3 a4 a5 a6 a7 a8 a9 a10 a11 a12:rs!}(s:Sto){qs:mY!}
theorem zvP{r:Rl} {m:Int} {kH:mY!} (E:RD e r) (hq:qs=(m,j! dq!)::kH):z00 (EV l! a1 a2 d4! a4 a5 a6 a7 a8 a9 a10 a11 a12) s=aW! (EV l! a1 a2 d4! a4 (b! (zlA v r)) a6 a7 a8 a9 a10 a11 a12):=by
 have i1:c5! (W! sN!) 0 s=i! (pD (m,dq!)):=by
  rw[hq];exact kv! (_c0 _)
 have i2:c5! (pD (m,dq!)) 1 s=x! dq!:=jz (r:=[m,dq!]) (j:=1) s (by simp);have hg:(al! (nmR r=jd!) (aK! dq!) (al! (nmR r=gi!) cL! an!))=zlA v r:=by
  cases r;·rfl
  ·rfl
  ·rfl
  ·rfl
 rw[z00,zR,(show zgL jd! gi! (cl! (hx! 3) ae!) B! q! (EV l! a1 a2 d4! a4 a5 a6 a7 a8 a9 a10 a11 a12) s=i! (zlA v r) from by
  unfold zgL;rw[yH,yH,vr (d:=W! sN!) rfl,Rb,qr,Rb,i1,Rb,qr,Rb,i2,Rb,qr,Rb,vr (d:=e) rfl,Rb,E.eq];simp only;rw[hg])];rfl
theorem zgR(g:Int×Int->D)(fe:FE)(ph:∀a:Int×Int,fe [dy!,e! a.1,e! a.2] s=i! (g a))(hl:jY!<=4): zv kw! (dw! 4) (yT 1 2) (el! 2 q!) fe (EV a0 a1 a2 d4! dy! a5 a6 a7 a8 a9 a10 a11 a12) s = bA! ((rw! (ci! a.2 (j! a9!))).map g):= xK (s:=s) pD g (λa=>ci! a.2 a9!) (λa=>[dy!,e! a.1,e! a.2]) qs (jA p!) (λa _=>by rfl) (λa _=>by simp) (λa _ _=>ph a) (by simp[cap];lia)
variable (he:es!)(hm:∀a,a∈qs ↔ a∈zbp v)(pw:qs.Pairwise λa b=>Dd.lexLt a b=d!)(hl:jY!<=4)
include h he hm pw
theorem zjz:∃kH,(rw! (ci! a.2 (j! a9!)))=(i0! c2!,ab! (lp c2!))::kH:= zeE (z7h h) (kJ h he) (λa=>by rw[z7X h,<- hm];simp) (pw.filter _)
theorem zos:(rw! (ci! a.2 (j! a9!))).map sj!≠[]/\jW! ((rw! (ci! a.2 (j! a9!))).map sj!)=hp!/\0<hp!:= znS (z7h h) (kJ h he) (λa=>by rw[z7X h,<- hm];simp)
include hl
theorem zvX:z0q (EV a0 a1 a2 d4! dy! a5 a6 a7 a8 a9 a10 a11 a12) s=aW! (EV a0 a1 a2 d4! dy! (e! (ab! (lp c2!))) a6 a7 a8 a9 a10 a11 a12):=by
 obtain⟨kH,e⟩:=zjz h he hm pw;have c:=zgR (v:=v) (a0:=a0) (a1:=a1) (a2:=a2) (a5:=a5) (a6:=a6) (a7:=a7) (a8:=a8) (a9:=a9) (a10:=a10) (a11:=a11) (a12:=a12) s (λa=>c! a.2) N! (λa=>p!) hl;rw[e]at c;rw[z0q,zR,yH,c,Rb,qr,Rb,wT (d:=c! (lp c2!)) (_c0 _) rfl];rfl
theorem zw3:z08 (EV a0 a1 a2 d4! dy! a5 a6 a7 a8 a9 a10 a11 a12) s=aW! (EV a0 a1 a2 d4! dy! a5 (e! hp!) a7 a8 a9 a10 a11 a12):=by
 obtain⟨ne,e,_⟩:=zos h he hm pw;have c:=zgR (v:=v) (a0:=a0) (a1:=a1) (a2:=a2) (a5:=a5) (a6:=a6) (a7:=a7) (a8:=a8) (a9:=a9) (a10:=a10) (a11:=a11) (a12:=a12) s (λa=>c! a.1) r! (λa=>p!) hl;rw[(show ((rw! (ci! a.2 (j! a9!))).map λa=>aK! a.1)=iL ((rw! (ci! a.2 (j! a9!))).map sj!) from by simp[_L])]at c;rw[z08,zR,yI c,zps s ne,e];rfl
omit pw hl hm
theorem zvs(D:LD d v):z0e (EV a0 g! bz! a3 dy! a5 (e! hp!) a7 a8 a9 a10 a11 a12) s = aW! (EV a0 g! bz! a3 dy! (e! (ab! ((c2!).idxOf hp!))) (e! hp!) a7 a8 a9 a10 a11 a12):=by
 have l4:=h.le4;have ol:=wQ eQ!;have pos:0<hp!:=by
  obtain⟨y,hy⟩:=List.exists_mem_of_ne_nil _ (kJ h he);obtain⟨y1,y2⟩:=qF.mp hy;have:=z7h h y y1;have:=maxL_ge (xs:=c2!) y y1;lia
 obtain⟨kH,e⟩:=zf9 (w:=c2!) (kG! (λz=>by rw[z]at ol;simp at ol;lia)) (λi=>fh! b1! hp!&&ci! i a9!) (λi _=>by
  rw[uM eQ!];by_cases q:i=a9!
  ·simp only[q,_v,ne_eq,not_true_eq_false,_cw,_cO];symm;simp;lia
  ·simp[q]);rw[ol]at e;have c:=xK (s:=s) (mp:=fl! 6 4 1) (fg:=yg 3) (ft:=zlM (e9! (ce! 2 3) q!) (el! 3 r!)) (fe:=be!) (λi:Nat=>jZ! (i:Nat)) (λi:Nat=>jZ! (i:Nat)) (λi=>fh! b1! hp!&&ci! i a9!) (λi=>[e! hp!,e! (j! a9!),g!,fn! i]) pP! (qZ (n:=v.length) (ρ:=EV a0 g! (fn! J!) a3 (e! (j! a9!)) a5 (e! hp!) a7 a8 a9 a10 a11 a12) (ar:=b6! 2) (by lia) (by rfl)) (λi _=>by rfl) (fb! (by
   have e1:=D.ix s i (by simpa using hi);have e3:a5! (ez! i≠j! a9!)=ci! i a9!:=by
    by_cases q:i=a9!;·simp[q]
    ·simp[q,(show ¬ j! i=j! a9! from by lia)]
   simp only[zj3,jt,yH,yh,_c,_d,Rb,e1,zdv,z5r,e3];cases fh! b1! hp!<;>rfl)) (λi _ _=>by rfl) (by simp[cap];lia);rw[e]at c;rw[z0e,zR,z7D (v:=v) c];rfl
omit he
theorem ztl(b:Nat):uR (EV a0 a1 bz! a3 a4 a8! a6 a7 a8 a9 a10 a11 a12) s=aW! (EV a0 a1 bz! a3 a4 a8! a6 (bg! (nL (vd v b))) a8 a9 a10 a11 a12):=by
 have l4:=h.le4;rw[uR,zR,(xK (s:=s) (mp:=ad! 5) (fg:=yg 1) (ft:=el! 1 q!) (fe:=r!) (λi:Nat=>jZ! (i:Nat)) (λi:Nat=>jZ! (i:Nat)) (λi=>ci! i b) (λi=>[fn! b,fn! i]) pP! (qZ (n:=v.length) (ρ:=EV a0 a1 (e! (j! J!)) a3 a4 (fn! b) a6 a7 a8 a9 a10 a11 a12) (ar:=b6! 2) (by lia) (by rfl)) (λi _=>by rfl) (fb! (by
   have e3:a5! (ez! i≠j! b)=ci! i b:=by
    by_cases q:i=b;·simp[q]
    ·simp[q,(show ¬ j! i=j! b from by lia)]
   simp only[jt,yH,yh,_c,_d,Rb,z5r,e3])) (λi _ _=>by rfl) (by simp[cap];lia))];rfl
end
theorem zl1(n:Nat):hN! n [aK! 0]=iL (md! n 0):=by induction n with
 | zero=>rfl | succ n ih=>simp[_aO,ih]
theorem znu(ha:gF! s=i! (.loc L))(hb:fb ρ s=bp! x)(at_:G! s2 L xs)(hl:w!<fv!)(hx:x.flat=d!):wy (zdB fa fb) ρ s=K! ρ (og! L (xs++[x])):=by
 rw[z1o,z9o,ha,Rb];simp only;rw[hb,Rb];simp only[at_];rw[bP! hx (by simp[cap];lia)];rfl
theorem z3a(h:t ρ s=kY!):fIf t f g ρ s=ay!:=by rw[z6U,h,Rb,gx!]
section
variable {n m:Nat}{v:h!}{d e:D}(h:fo!)(D:LD d v)(hm:m<=hM!){a0 a1 a2 a3 a4 a5 a6 a7 a8 a9 a10 a11 a12:rs!}(s:Sto){b:Nat}(hb:b<J!)
include h hm in
theorem zlw{i:Nat}(hi:fp!):0<=b1!/\b1!<2 ^ bF!:=by
 refine⟨h.nn _ (q4! hi),_cN (h.bd _ (q4! hi)) ?_⟩;have:ez! 2 ^ m<=2 ^ bF!:=_A (by decide) (by lia);have:=Int.ofNat_le.mpr jq!;simpa using this
include h in
theorem ztT:wg (EV a0 a1 bz! a3 a4 a5 a6 a7 a8 a9 a10 a11 a12) s=K! (EV a0 a1 bz! a3 a4 a5 a6 a7 (ex! (v! (s++[[kQ!]]))) a9 a10 a11 a12) ((s++[[kQ!]])++bK! (lH! 0)):=by
 have l4:=h.toLot.le4;have e0:zaR (aU! B!) (EV a0 a1 bz! a3 a4 a5 a6 a7 a8 a9 a10 a11 a12) s=g3! (s++[[kQ!]]):=by
  simp only[z9j,zr,zK,qr,Rb];rw[bP! (by simp[cap]) (yR [0])]
 have e1:zft mo! (c! J!) (s++[[kQ!]])=.ok (.loc (v! (s++[[kQ!]]))) ((s++[[kQ!]])++bK! (lH! 0)):=by
  have lo:Dd.listOf (s++[[kQ!]]) mo!=b! [kQ!]:=by simp[Dd.listOf]
  simp only[zft,lo,_T,zl1];rw[_h ⟨by simp[cap];lia,by lia,by lia,yR _⟩]
 rw[wg,zR,yH,e0,Rb,vr (d:=c! J!) rfl,Rb,e1];rfl
include h D hm hb
theorem znX{S0:Sto} {all:ee! Dd.D}:∀(ps:List Nat) (xs:List Int) (p9:Option Dd.D),(∀i∈ps,fp!)->w!=J!-> ∃dQ,yU [] all (eA! (yg 9 d ρ s) (wa ρ' s')) (nL ps) (EV a0 g! a2 a3 a4 a8! a6 a7 pV! p9 a10 a11 a12) (S0++bK! xs) = K! (EV a0 g! a2 a3 a4 a8! a6 a7 pV! dQ a10 a11 a12) (S0++bK! (al! (0<fO!) (zgV v fO! ps xs) xs))
 | [],xs,p9,_,_=>⟨p9,by simp[yU,okG,zgV]⟩ | i::ps,xs,p9,hi,hl=>by
  have i0:=hi i in!;have B:=zlw h hm hb;have gF:=D.ix (S0++bK! xs) b hb;have pj:=D.ix (S0++bK! xs) i i0;have cY:tOf (eOp dGt (bl! 5) B!) (EV a0 g! a2 a3 a4 a8! a6 a7 pV! (e! i) a10 a11 a12) (S0++bK! xs)=.ok (dO! 0 fO!) (S0++bK! xs):=by simp only[jt,yH,yh,qr,_c,_d,Rb,gF,zsx]
  by_cases q:0<fO!
  ·obtain⟨dQ,ih⟩:=znX (S0:=S0) (all:=all) ps (iB! i (b1! / fO!)) (e! i) (λj hj=>hi j (.tail _ hj)) (by simpa using hl);refine aw! dQ ?_;have body:wa (EV a0 g! a2 a3 a4 a8! a6 a7 pV! (e! i) a10 a11 a12) (S0++bK! xs)=K! (EV a0 g! a2 a3 a4 a8! a6 a7 pV! (e! i) a10 a11 a12) (S0++bK! (iB! i (b1! / fO!))):=by
    rw[wa,z3a (by rw[cY];simp only[q,_c7]),z28];rw[z6j (s1:=S0++bK! xs) (s2:=S0++bK! xs) (L:=S0.length) (xs:=xs) (i:=j! i) (x:=b1! / fO!) (by
     rw[yH,op2 (x:=d) (y:=Y!) p! p!,pj,Rb,op2 (x:=d) (y:=e2!) p! p!,gF];exact zhI _ q B.2) p! p! (by simp) (by lia) (by lia)];simp
   rw[show nL (i::ps)=jZ! i::nL ps from rfl,yU,_h (by intro p hp;cases hp),ua,Rb];simp only[_E,_B];rw[body,Rb];simp only;rw[ih];simp only[q,_v];rfl
  ·obtain⟨dQ,ih⟩:=znX (S0:=S0) (all:=all) ps xs (e! i) (λj hj=>hi j (.tail _ hj)) hl;refine aw! dQ ?_;rw[show nL (i::ps)=jZ! i::nL ps from rfl,yU,_h (by intro p hp;cases hp),ua,Rb];simp only[_E,_B];rw[(show wa (EV a0 g! a2 a3 a4 a8! a6 a7 pV! (e! i) a10 a11 a12) (S0++bK! xs)=K! (EV a0 g! a2 a3 a4 a8! a6 a7 pV! (e! i) a10 a11 a12) (S0++bK! xs) from by
    rw[wa,zdF (by rw[cY];simp only[q,_cw])];rfl),Rb];simp only;rw[ih];simp only[q,_aU]
omit h D hm
theorem zho(Q:h!)(hQ:pG!=J!)(z:Int):((enP v).map λp:Int×Nat=>jZ! (p.1-iX! p.2*z))=iL (ot! (λx q=>x-q*z) v Q):=by
 apply _aR;·simp[enP,hQ]
 ·intro i h1 h2;simp[enP,_n,hQ,(by simpa[enP] using h1)]
include h D hm
theorem zu5{Q:h!} {L:Nat} (hs:G! s L (iL Q)) (hQ:pG!=J!) (hq:∀q∈Q,0<=q/\q<2 ^ m): wc (EV a0 g! a2 a3 a4 a8! a6 a7 (ex! L) a9 a10 a11 a12) s=aW! (EV a0 g! a2 a3 a4 a8! a6 a7 (ex! L) a9 (b! (bJ! (cG! Q b))) a11 a12):=by
 have l4:=h.toLot.le4;have B:=zlw h hm hb;have gF:=D.ix s b hb;have c:=comp_map (s:=s) (mp:=[b! 8,b! 1,b! 5,a!,a!]) (fg:=yT 3 4) (fe:=ks! 4 (gA! (ce! 0 3) (bl! 2))) (λp:Int×Nat=>Dd.D.tup (cU! p.2 p.1)) (λp=>jZ! (p.1-iX! p.2*fO!)) (λp=>[ex! L,g!,a8!,e! p.2,e! p.1]) (enP v) (z9O (f:=r!) (ρ:=EV a0 g! a2 a3 a4 a8! a6 a7 (ex! L) a9 a10 a11 a12) (by rw[<- D.eq];exact p!)) (λp _=>by rfl) (bs! (by
   have hi:p.2<pG!:=by rw[hQ];exact cV! (zdP.mp hp)
   have e1:=zbg (s:=s) (l:=L) (i:=p.2) (d:=c! (iX! p.2)) hs (by lia) (by simp[_n,hi]);have q1:=hq _ (q4! hi);rw[yH,vr (d:=c! p.1) rfl,Rb,yH,op2 (x:=.loc L) (y:=c! (p.2:Nat)) p! p!,e1,Rb,op2 (x:=d) (y:=c! (b:Nat)) p! p!,gF,Rb,z1q s q1.1 (_cN q1.2 (by
    have:2 ^ m<=2 ^ bF!:=_A (by decide) (by lia);simpa using (Int.ofNat_le.mpr jq!))) B.1 B.2];rfl)) (by simp[enP,cap];lia);rw[zho hb Q hQ]at c;rw[wc,zR,c];rfl
end
theorem z7L{α:b4!} (g f:α->D)(ev:α->Ev)(l:eX!) (hi:fi ρ s=i! (kg!,[]))(hg:∀a∈l,fg (g a) jb! s=i! (ev a))(he:∀a∈l,fe (ev a) s=i! (f a))(hl:iL!<=cap)(hf:dc! mU!): z1Q fi mp fg zU fe ρ s=g3! (s++[mU!]):=by
 rw[zef,uJ,hi,Rb,z34 g f (λ_=>d!) l [] (by
  intro a ha;simp only[hg a ha,Rb];simp[he a ha]) (by simpa using hl),(_bI.mpr (by simp))];simp only[_ar,Rb];rw[_h hf]
theorem ze9(xs:D!)(k:Nat):cutD xs a! (b! (j! k))=nb! k:=by simpa[dSl] using (z2k xs k [])
theorem z66(xs:D!)(k:Nat):cutD xs (b! (j! k)) a!=li! k:=by simpa[dSl] using (z2s xs k [])
theorem zbt(hb:b<line.length)(q:Int):xq b line q=line.set b (line.getD b 0+q):=by
 unfold xq;rw[_bW,_h hb];simp
noncomputable def xA(n i:Nat):h!:=aP! n (λc=>aj! i c 1 0)
theorem zm4(hx:G! ρ k fk!)(hl:Dd.listOf s x=b! xs)(h:x=bH!\/∃l,x=dP!)(hc:w!<=4):eOp xh (e4! (zd k) ae!) (gc! (zd k) ae!) ρ s=bA! (rot xs):=by
 rw[yH,zaK,vr hx,Rb,z1e,qr];simp only[Rb,qh];rw[(show dSl x (b! 1) a! s=bA! (li! 1) from by
  rcases h with rfl | ⟨l,rfl⟩;·exact _aM (λz=>eN! (D.lst z) s) (z66 xs 1)
  ·simp only[dSl,hl];exact _aM (λz=>eN! (D.lst z) s) (z66 xs 1)),Rb,zaK,vr hx];simp only[Rb,qh,z1e,qr];rw[(show dSl x a! (b! 1) s=bA! (nb! 1) from by
  rcases h with rfl | ⟨l,rfl⟩;·exact _aM (λz=>eN! (D.lst z) s) (ze9 xs 1)
  ·simp only[dSl,hl];exact _aM (λz=>eN! (D.lst z) s) (ze9 xs 1)),Rb,z70,_h (by simp[cap];lia)];rfl
section
variable {n m:Nat}{v:h!}{d e:D}{r:Rl}(h:fo!)(E:RD e r){a0 a1 a2 a3 a4 a5 a6 a7 a8 a9 a10 a11 a12:rs!}{b:Nat}(hb:b<J!){Q:h!}(hQ:pG!=J!)
include h E hb hQ
theorem ztv{S:Sto} {L i:Nat} (hL:G! S L (iL Q)) (hi:fp!) (A:D!) (hA:qX!<fv!) (J:Sto) (c0:fG!): ∃J' dR,(zA vg (a3! vq vm vt)) (EV l! a1 bz! a3 a4 a8! a6 a7 (ex! L) (e! i) a10 jz! c0) (S++A::J) = K! (EV l! a1 bz! a3 a4 a8! a6 a7 (ex! L) (e! i) a10 jz! dR) (S++(A++[rD (ha! (xq b fM! (iX! i)))])::J'):=by
 have l4:=h.toLot.le4;have ln:v! fM!=J!:=by simp[xA]
 have em:(aP! J! (λc:Nat=>aK! (aj! i c 1 0)))=iL fM!:=by simp[xA,_L]
 have c:=z7L (s:=S++A::J) (mp:=ad! 9) (fg:=yg 1) (fe:=aG! zeb (ej! dEq 0 r!)) (λc:Nat=>aK! (ab! c)) (λc:Nat=>aK! (aj! i c 1 0)) (λc=>[e! i,e! (ab! c)]) pP! (qZ (n:=v.length) (ρ:=EV l! a1 bz! a3 a4 a8! a6 a7 (ex! L) (e! i) a10 jz! c0) (ar:=b6! 2) (by lia) (by rfl)) (λc _=>by rfl) (λc _=>by
   by_cases q:i=c;·simp[zeb,q]
   ·have:¬ j! i=j! c:=by lia
    simp[zeb,q,this]) (by simp[cap];lia) (by rw[em];exact yR _);rw[em]at c;have mi:vg (EV l! a1 bz! a3 a4 a8! a6 a7 (ex! L) (e! i) a10 jz! c0) (S++A::J) = K! (EV l! a1 bz! a3 a4 a8! a6 a7 (ex! L) (e! i) a10 jz! (ex! (v! (S++A::J)))) ((S++A::J)++bK! fM!):=by
  rw[vg,zR,c];rfl
 have aT:G! ((S++A::J)++bK! fM!) (v! (S++A::J)) (iL fM!):=by simp
 have aL:G! ((S++A::J)++bK! fM!) L (iL Q):=by rw[_b1,_F (cV! hL),hL]
 have i1:=zbg (i:=j! b) (d:=c! (bd! fM! b)) aT (by lia) (by simp[_n,ln,hb]);have i2:=zbg (i:=j! i) (d:=c! (iX! i)) aL (by lia) (by simp[_n,hQ,hi]);have iV:((S++A::J)++bK! fM!).set (v! (S++A::J)) (iL ((fM!).set (j! b).toNat (bd! fM! b+iX! i)))=(S++A::J)++bK! (xq b fM! (iX! i)):=by
  rw[zbt (by rw[ln];exact hb)];simp
 have mj:vq (EV l! a1 bz! a3 a4 a8! a6 a7 (ex! L) (e! i) a10 jz! (ex! (v! (S++A::J)))) ((S++A::J)++bK! fM!) = K! (EV l! a1 bz! a3 a4 a8! a6 a7 (ex! L) (e! i) a10 jz! (ex! (v! (S++A::J)))) ((S++A::J)++bK! (xq b fM! (iX! i))):=by rw[vq,z6j (s1:=(S++A::J)++bK! fM!) (s2:=(S++A::J)++bK! fM!) (L:=v! (S++A::J)) (xs:=fM!) (i:=j! b) (x:=bd! fM! b+iX! i) (by
   rw[yH,op2 (x:=.loc (v! (S++A::J))) (y:=e2!) p! p!,i1,Rb,op2 (x:=.loc L) (y:=Y!) p! p!,i2,Rb];rfl) p! p! aT (by lia) (by lia),iV]
 have pq:v! (iL (xq b fM! (iX! i)))<=4:=by
  rw[zbt (by rw[ln];exact hb)];simp[ln];lia
 generalize hW:iL (xq b fM! (iX! i))=W at *;have ot:=E.tu ((S++A::J)++[W]);have aA:G! ((S++A::J)++[W]) q7! A:=by simp
 have fin:∀(x:D) (row:List Int),x.flat=d!->x=rD row->∀ ρ:Ev,G! ρ 11 jz!->(∃y,G! ρ 12 (b! y)/\zV [y] ((S++A::J)++[W])=.ok x ((S++A::J)++[W]))->vt ρ ((S++A::J)++[W])=K! ρ (S++(A++[x])::(J++[W])):=λx row fx hx ρ gq ⟨y,pr,g⟩=>by
  rw[vt,znu (s2:=(S++A::J)++[W]) (L:=S.length) (xs:=A) (x:=x) (vr gq) (by rw[yI (vr pr)];exact g) aA hA fx];have iX:((S++A::J)++[W]).set q7! (A++[x])=S++(A++[x])::(J++[W]):=by simp
  rw[iX]
 by_cases q:r=.tu
 ·refine⟨J++[W],bg! (rot W),?_⟩;rw[zn mi,zn mj,zn (by
   rw[vm,z3a (by rw[jt,op2 (x:=e) (y:=aq! gi!) p! rfl,ot];simp[q]),z2a,zR,zm4 (x:=.loc (v! (S++A::J))) (xs:=W) (k:=12) rfl (by simp[Dd.listOf]) (em! _ rfl) pq];rfl)];have e1:rD (ha! (xq b fM! (iX! i)))=n! (rot W):=by
   rw[q,zaZ,<- hW];simp[rot,_ci,_aT]
  rw[e1];exact fin (n! (rot W)) _ (by rw[<- e1];exact yR _) e1.symm _ rfl (aB! _ (z25 _ _))
 ·refine⟨J++[W],ex! (v! (S++A::J)),?_⟩;rw[zn mi,zn mj,zn (by
   rw[vm,zdF (by rw[jt,op2 (x:=e) (y:=aq! gi!) p! rfl,ot];simp[q])];rfl)];have e1:rD (ha! (xq b fM! (iX! i)))=n! W:=by rw[z90 q,<- hW]
  rw[e1];exact fin (n! W) _ (by rw[<- e1];exact yR _) (by rw[<- e1]) _ rfl (aB! _ (by simp[zV,zW]))
end
noncomputable def zdO(r:Rl)(b n:Nat)(Q:h!)(i:Nat):D:=rD (ha! (xq b (xA n i) (iX! i)))
theorem zii(r:Rl)(b:Nat)(Q:h!):tD (z7Z r b Q)=n! (aP! pG! (zdO r b pG! Q)):=by
 show gN! _=gN! _;congr 1;apply _aR;·simp[z7Z,one]
 ·intro i h1 h2;simp[z7Z,one,zdO,xA,(by simpa using h2)]
section
variable {n m:Nat}{v:h!}{d e:D}{r:Rl}(h:fo!)(E:RD e r){a0 a1 a2 a3 a4 a5 a6 a7 a8 a9 a10 a11 a12:rs!}{b:Nat}(hb:b<J!){Q:h!}(hQ:pG!=J!)
include h E hb hQ
theorem zrj{S:Sto} {L:Nat} {all:D!} (hL:G! S L (iL Q)):∀(k j:Nat) (J:Sto) (p9 c0:Option D),j+k=J!-> ∃J' dQ dR,yU [] all (eA! (yg 9 d ρ s) ((zA vg (a3! vq vm vt)) ρ' s')) ((oj! j k).map λi=>aK! (ab! i)) (EV l! a1 bz! a3 a4 a8! a6 a7 (ex! L) p9 a10 jz! c0) (S++(aP! j (j9! r b Q))::J) = K! (EV l! a1 bz! a3 a4 a8! a6 a7 (ex! L) dQ a10 jz! dR) (S++(aP! (j+k) (j9! r b Q))::J')
 | 0,j,J,p9,c0,_=>⟨J,p9,c0,by simp[yU,okG]⟩ | k+1,j,J,p9,c0,hj=>by
  have l4:=h.toLot.le4;obtain⟨J1,gG,e1⟩:=ztv (a1:=a1) (a3:=a3) (a4:=a4) (a6:=a6) (a7:=a7) (a10:=a10) h E hb hQ hL (i:=j) (by lia) (aP! j (j9! r b Q)) (by simp;lia) J c0;obtain⟨J2,q9,pv,e2⟩:=zrj hL k (j+1) J1 aY! gG (by lia);refine⟨J2,q9,pv,?_⟩;rw[(show aP! j (j9! r b Q)++[rD (ha! (xq b (xA J! j) (iX! j)))]=aP! (j+1) (j9! r b Q) from by
   rw[List.range_succ,_cl];rfl)]at e1;rw[List.range'_succ,_p,yU,_h (by intro p hp;cases hp),ua,Rb];simp only[_E,_B];rw[e1,Rb];simp only;rw[e2,show j+1+k=j+(k+1) by lia]
theorem zti(D:LD d v) (hm:m<=hM!) {ps:jD!} (dP:∀i∈ps,fp!) (hq:∀q∈Q,0<=q/\q<2 ^ m) (eQ:(al! (0<fO!) (zgV v fO! ps (lH! 0)) (lH! 0))=Q) (s:Sto): ∃s',(a3! wg qe (du! wc vo wf xZ wj)) (EV l! g! bz! a3 a4 a8! a6 l4! a8 a9 a10 a11 a12) s = bj! (.rt (n! [rD (ha! (cG! Q b)),tD (z7Z r b Q)]))/\s'.take ct!=s:=by
 have l4:=h.toLot.le4;have f13:=ztT (a0:=l!) (a1:=g!) (a3:=a3) (a4:=a4) (a5:=e! (j! b)) (a6:=a6) (a7:=l4!) (a8:=a8) (a9:=a9) (a10:=a10) (a11:=a11) (a12:=a12) h s;obtain⟨p9,f14⟩:=znX (a0:=l!) (a2:=fn! J!) (a3:=a3) (a4:=a4) (a6:=a6) (a7:=l4!) (a10:=a10) (a11:=a11) (a12:=a12) h D hm hb (S0:=s++[[kQ!]]) (all:=nL ps) ps (lH! 0) a9 dP (by simp);rw[eQ]at f14;generalize hS:(s++[[kQ!]])++bK! Q=S at *;have hL:G! S (v! (s++[[kQ!]])) (iL Q):=by rw[<- hS];simp
 have ce:s <+: S:=by
  rw[<- hS,_b1];exact List.prefix_append _ _
 generalize hLL:v! (s++[[kQ!]])=L at *;have f17:=zu5 (a0:=l!) (a2:=fn! J!) (a3:=a3) (a4:=a4) (a6:=a6) (a7:=l4!) (a9:=p9) (a10:=a10) (a11:=a11) (a12:=a12) h D hm S hb hL hQ hq;have f18:vo (EV l! g! (fn! J!) a3 a4 (fn! b) a6 l4! (ex! L) p9 (b! (bJ! (cG! Q b))) a11 a12) S = K! (EV l! g! (fn! J!) a3 a4 (fn! b) a6 l4! (ex! L) p9 (b! (bJ! (cG! Q b))) jz! a12) (S++(aP! 0 (j9! r b Q))::[]):=by rfl
 obtain⟨J,q9,gG,ml⟩:=zrj (a1:=g!) (a3:=a3) (a4:=a4) (a6:=a6) (a7:=l4!) (a10:=b! (bJ! (cG! Q b))) h E hb hQ (all:=aP! J! (λi:Nat=>jZ! (i:Nat))) hL v.length 0 [] p9 a12 (by lia);have mq:wf (EV l! g! (fn! J!) a3 a4 (fn! b) a6 l4! (ex! L) p9 (b! (bJ! (cG! Q b))) jz! a12) (S++(aP! 0 (j9! r b Q))::[]) = K! (EV l! g! (fn! J!) a3 a4 (fn! b) a6 l4! (ex! L) q9 (b! (bJ! (cG! Q b))) jz! gG) (S++(aP! (0+J!) (j9! r b Q))::J):=by
  rw[wf,jP,qZ (n:=v.length) (s1:=S++(aP! 0 (j9! r b Q))::[]) (by lia) (by rfl)];rw[List.range_eq_range']at ml ⊢;exact ml
 rw[_aq]at mq;have aM:G! (S++(aP! J! (j9! r b Q))::J) q7! (aP! J! (j9! r b Q)):=by simp
 refine⟨S++(aP! J! (j9! r b Q))::J,?_,?_⟩
 ·generalize hT:S++(aP! J! (j9! r b Q))::J=T at *;have ot:=E.tu T;have fin:∀w:List Int,wj (EV l! g! bz! a3 a4 a8! a6 l4! (ex! L) q9 (b! (bJ! w)) jz! gG) T=.ok (.rt (n! [rD w,tD (z7Z r b Q)])) T:=λw=>by
   have e2:zV [.loc q7!] T=.ok (tD (z7Z r b Q)) T:=by
    rw[zii,hQ];simp only[zV,zW,aM]
   rw[wj,yo,z1L,zr,yI (x:=bJ! w) p!,(z25 _ _),Rb,zr,yI (x:=.loc q7!) p!,e2,Rb,zK];simp only[Rb];rw[_h (by simp[cap])];rfl
  rw[zn f13,zn (by exact f14),zn f17,zn f18,zn mq];have lw:v! (cG! Q b)=J!:=by simp[left,hQ]
  by_cases q:r=.tu
  ·rw[zn (by
    have e3:rot (iL (cG! Q b))=iL (ha! (cG! Q b)):=by
     rw[q,zaZ];simp[rot,_ci,_aT]
    rw[xZ,z3a (by rw[jt,op2 (x:=e) (y:=aq! gi!) p! rfl,ot];simp[q]),z1Z,zR,zm4 (x:=bJ! (cG! Q b)) (xs:=iL (cG! Q b)) (k:=10) rfl (by rfl) c4! (by simp[lw];lia),e3];rfl)];exact fin _
  ·rw[zn (by
    rw[xZ,zdF (by rw[jt,op2 (x:=e) (y:=aq! gi!) p! rfl,ot];simp[q])];rfl),z90 q];exact fin _
 ·obtain⟨t,rfl⟩:=ce;simp
end
theorem zk8(w:h!)(T:Tb):(gN! [rD w,tD T]).flat=d!:=by
 have h1:(rD w).flat=d!:=yR _;show ((rD w).flat&&((tD T).flat&&si! []))=d!;rw[h1,(show (tD T).flat=d! from by
  show dc! nz!;induction T with
  | nil=>rfl | cons r T ih=>
   show ((rD r).flat&&si! nz!)=d!;rw[ih,Bool.and_true];exact yR r)];rfl
section
variable {n m:Nat}{v:h!}(r:Rl)(h:fo!)(he:es!)(hm:m<=hM!)
include h he hm
theorem zmR(s:Sto):jl [bv!,M!] s=a7! [rD dA!,tD fR!]:=by
 have key:hL! (LD d v->RD e r->jl [e,d] s=a7! [rD dA!,tD fR!]):=λd e D E=>by
  have l4:=h.toLot.le4;have st:zy [fW!,bL!,fV!,"_law_order",np!,or!,qT!,hi!,nq!,ev!,os!,"_law_lines",gm!] [e,d]=EV l! g! a! a! a! a! a! a! a! a! a! a! a!:=rfl;have f1:=zvA (a0:=l!) (a2:=none) (a3:=none) (a4:=none) (a5:=none) (a6:=none) (a7:=none) (a8:=none) (a9:=none) (a10:=none) (a11:=none) (a12:=none) h.toLot D s;obtain⟨qs,f2,gH,pw⟩:=zjX ei! he (EV l! g! bz! a! a! a! a! a! a! a! a! a! a!) s (by rw[<- D.eq];rfl);have pA:qQ (EV l! g! bz! a! a! a! a! a! a! a! a! a! a!) s=aW! (EV l! g! bz! d4! a! a! a! a! a! a! a! a! a!):=f2;have ql:jY!<=4:=by
   have nd:qs.Nodup:=pw.imp λ{a b} q z=>by rw[z,zh3]at q;cases q
   have h2:=zlr ei! he;have:jY!<=v! (zbp v):=List.Nodup.length_le_of_subset nd λa ha=>(gH a).mp ha;lia
  have f3:=zvQ (a0:=l!) (a3:=d4!) (a4:=none) (a5:=none) (a6:=none) (a7:=none) (a8:=none) (a9:=none) (a10:=none) (a11:=none) (a12:=none) h.toLot D s;obtain⟨kH,eh⟩:=zeE fX! h.toLot.nzne gH pw;have f4:=zvP (v:=v) (a1:=g!) (a2:=bz!) (a4:=dy!) (a5:=none) (a6:=none) (a7:=none) (a8:=none) (a9:=none) (a10:=none) (a11:=none) (a12:=none) s E eh;have dl:=qw r ei! he;have qb:=zpr r h he;have fin:∀(a6:Option Dd.D) (ps:List Nat),(∀i∈ps,fp!)->(al! (0<bt! aI!) (zgV v (bt! aI!) ps (lH! 0)) (lH! 0))=dm!-> (a3! wO wR (du! uR wk wg qe (du! wc vo wf xZ wj))) (EV l! g! bz! d4! dy! (b! (zlA v r)) a! a! a! a! a! a! a!) s = (a3! wg qe (du! wc vo wf xZ wj)) (EV l! g! bz! d4! dy! (e! (ab! aI!)) a6 l4! a! a! a! a! a!) s-> jl [e,d] s=a7! [rD dA!,tD fR!]:=λa6 ps dP eQ eF=>by
   obtain⟨s',et,tk⟩:=zti (a3:=d4!) (a4:=dy!) (a6:=a6) (a8:=none) (a9:=none) (a10:=none) (a11:=none) (a12:=none) h E dl.lt (Q:=dm!) (xl _ _) D hm dP qb eQ s;simp only[jl,z6V,Mof,z52,st,_i,_k,_v];rw[zn f1,zn pA,zn f3,zn f4,eF,et];simp only;rw[z1A (zk8 _ _),tk];rfl
  have ol:=E.le s;have on:=E.nx s;have oi:=E.in_ s;have iY:r≠.le->∀x,wO (EV l! g! bz! d4! dy! x a! a! a! a! a! a! a!) s=aW! (EV l! g! bz! d4! dy! x a! a! a! a! a! a! a!):=λq x=>by
   rw[wO,zdF (by rw[jt,op2 (x:=e) (y:=k0!) p! rfl,ol];simp[q])];rfl
  have iZ:r≠.nx->∀x,wR (EV l! g! bz! d4! dy! x a! a! a! a! a! a! a!) s=aW! (EV l! g! bz! d4! dy! x a! a! a! a! a! a! a!):=λq x=>by
   rw[wR,zdF (by rw[jt,op2 (x:=e) (y:=k6!) p! rfl,on];simp[q])];rfl
  have dy:∀(x6:Option Dd.D) (b:Nat) (z:Option Dd.D),(r=.nx\/r=.le)->wk (EV l! g! bz! d4! dy! (e! (ab! b)) x6 z a! a! a! a! a!) s = aW! (EV l! g! bz! d4! dy! (e! (ab! b)) x6 (bg! (nL [a9!])) a! a! a! a! a!):=λx6 b z q=>by
   rw[wk,z3a (by rw[jt,op2 (x:=e) (y:=n! [k6!,k0!]) p! rfl,oi];simp[q]),z24,zR,z1d,zr,vr (d:=c! a9!) rfl];simp only[Rb,zK];rw[_h (by simp[cap])];rfl
  have fU:∀(x6:Option Dd.D) (b:Nat) (z:Option Dd.D),¬ (r=.nx\/r=.le)->wk (EV l! g! bz! d4! dy! (e! (ab! b)) x6 z a! a! a! a! a!) s = aW! (EV l! g! bz! d4! dy! (e! (ab! b)) x6 z a! a! a! a! a!):=λx6 b z q=>by
   rw[wk,zdF (by rw[jt,op2 (x:=e) (y:=n! [k6!,k0!]) p! rfl,oi];simp[q])];rfl
  have bX:=λ(x6:Option Dd.D) (b:Nat)=>ztl (a0:=l!) (a1:=g!) (a3:=d4!) (a4:=dy!) (a6:=x6) (a7:=none) (a8:=none) (a9:=none) (a10:=none) (a11:=none) (a12:=none) h.toLot s b;have mw:=(zds h.toLot.ne).1;have fV:a1! (mq!).2->0<bt! aI!:=λq=>dl.pos.resolve_left q;cases hr:r with
  | nx=>
   subst hr;have p0:=fV (by simp[deal]);refine fin (e! hp!) [a9!] (by simpa using mw) (by rw[_h p0,z1E];rfl) ?_;have f7:wR (EV l! g! bz! d4! dy! (b! (zlA v .nx)) a! a! a! a! a! a! a!) s=aW! (EV l! g! bz! d4! dy! (e! (ab! (gQ! .nx).1)) (e! hp!) a! a! a! a! a! a!):=by
    rw[wR,z3a (by rw[jt,op2 (x:=e) (y:=k6!) p! rfl,on];rfl),zn (zw3 ei! s he gH pw ql)];exact zvs ei! s he D
   rw[zn (iY (by decide) _),zn f7,zn (bX _ _),zn (dy _ _ _ c4!)] | le=>
   subst hr;have p0:=fV (by simp[deal]);refine fin a! [a9!] (by simpa using mw) (by rw[_h p0,z1E];rfl) ?_;have f5:wO (EV l! g! bz! d4! dy! (b! (zlA v .le)) a! a! a! a! a! a! a!) s=aW! (EV l! g! bz! d4! dy! (e! (ab! (gQ! .le).1)) a! a! a! a! a! a! a!):=by
    rw[wO,z3a (by rw[jt,op2 (x:=e) (y:=k0!) p! rfl,ol];rfl)];exact zvX ei! s he gH pw ql
   rw[zn f5,zn (iZ (by decide) _),zn (bX _ _),zn (dy _ _ _ (T! rfl))] | al=>
   subst hr;have p0:0<bt! (gQ! .al).1:=by
    obtain⟨_,l2,l3⟩:=zdr h.toLot.nzne;have:=Pm.uz fX! dq!;show 0<bt! dq!;lia
   refine fin a! (vd v dq!) (fb! (uF.mp hi).1) (by rw[_h p0,z1E];rfl) ?_;rw[zn (iY (by decide) _),zn (iZ (by decide) _),show zlA v .al=jZ! dq! from rfl,zn (bX a! dq!),zn (fU _ _ _ (by decide))];rfl | tu=>
   subst hr;refine fin a! (vd v 0) (fb! (uF.mp hi).1) ?_ ?_
   ·by_cases q:fQ!=0
    ·have e2:gQ! .tu=(0,[]):=by
      show (0,aj! fQ! 0 [] (vd v 0))=_;rw[_h q]
     rw[e2,_o (by show ¬ 0<fQ!;lia),zha]
    ·have e2:gQ! .tu=(0,vd v 0):=by
      show (0,aj! fQ! 0 [] (vd v 0))=_;rw[_o q]
     have:=Pm.uz fX! 0;rw[e2,_h (by show 0<fQ!;lia),z1E]
   rw[zn (iY (by decide) _),zn (iZ (by decide) _),show zlA v .tu=jZ! (ab! 0) from rfl,zn (bX a! 0),zn (fU _ _ _ (by decide))];rfl
 exact key _ _ (LD.of ei!) (RD.of r)
end
end Po
namespace Pn
open L2 Dd Pm Pg
theorem z4R:LeM uI uK:=mm! (r0! LeS.fNo)
theorem zfs:LeM yd zB:=mm! (LeS.seq (rk! z4R) (rk! z2r))
theorem zeM{M:Mir} (h:ay!=i! x)(hx:M [x] s=dQ!):zg M (aU! f) ρ s=dQ!:=by rw[yI h,hx]
theorem z5Z{M:Mir} (h:ay!=i! x)(h2:g ρ s=i! y)(hx:M [x,y] s=dQ!):zg M (cd! f g) ρ s=dQ!:=by rw[call2 h h2,hx]
section
variable {d y:D}{s:Sto}
theorem z8y(h:vU [d] s=cg!):uK [d] s=.ex hd! s:=by
 have st:zy df! [d]=[g!]:=rfl;simp only[uK,kZ,z3w,st,_i,_k,_v,z22,z6U,jR,jt,yI (x:=d) (vr (ρ:=[g!]) (i:=0) (s:=s) rfl),h,Rb];rfl
theorem zgx(h:vU [d] s=cg!):zB [d,y] s=.ex hd! s:=by
 simp only[zB,kZ,wJ,st,_i,_k,_v];rw[zi1 (c:=hd!) (s':=s) (by exact zdD (zeM (x:=d) p! (z8y h)))]
theorem zl3(h:yA [y] s=cg!):zB [bv!,y] s=.ex hc! s:=by
 have k:=z4R.ok (z6L r s);exact (λd k=>by
  simp only[zB,kZ,wJ,st,_i,_k,_v];rw[zn (ρ':=[g!,b! y]) (s':=s) (by rw[uo,z1o,yI (x:=d) p!,k];rfl),uw,zdD (zeM (x:=y) p! (z3l h))]:∀d:D,uK [d] s=fi!->zB [d,y] s=.ex hc! s) _ k
end
end Pn
namespace Po
open L2 Dd Pm Pg Pn
theorem zey(k:Nat) (h:dn! J!):uL (k+1) M!:=by
 refine⟨by simp[cap];lia,ah! ?_⟩;obtain⟨y,_,rfl⟩:=ho!;cases k<;>trivial
theorem twice(x:Str)(ρ:Ev)(s:Sto):eOp zrG (qt (aU! (bG! x))) (E! 2) ρ s=bA! [bY!,bY!]:=by rfl
theorem zpA(hx:PyData.strOk x=d!)(s:Sto):dNe (W! [bY!,bY!]) (W! [bY!,bY!]) s=cg!:= ne_self (k:=2) (by simp[okD,hx]) (by decide) s
theorem zkB(h:aH!) (s:Sto):xG [M!] s=aV! nB!:=by
 have l4:=h.le4;exact (hI! (by
  have st:zy [bL!] [d]=[g!]:=rfl;have c:=xK (s:=s) (ρ:=[g!]) (fi:=cW!) (mp:=[a!]) (fg:=yg 0) (ft:=eT! dGt q! B!) (fe:=q!) D.int D.int (λx=>dO! 0 x) (λx=>[e! x]) v (qV (by rw[show gN! (v.map rK!)=d from hd.symm];exact p!)) (λx _=>by rfl) (λx _=>by rfl) (λx _ _=>by rfl) (by simp[cap];lia);have e:v.filter (λx=>dO! 0 x)=nz v:=by
   refine List.filter_congr (ah! ?_);have:=h.nn x hx;by_cases q:x=0;·simp[q]
   ·simp[q,(show 0<x from by lia)]
  rw[e]at c;have lb:a5! (j! (hr! v)=1)=nB!:=by
   unfold ended;by_cases e:hr! v=1;·simp[e]
   ·simp[e,(show ¬ j! (hr! v)=1 from by lia)]
  simp only[xG,Mof,z3v,st,_i,_k,_v,z27,yo,yH,yI c,yF,zW,Rb,qr,zdv,_X,lb]):∀d:D,d=M!->xG [d] s=aV! nB!) _ rfl
noncomputable def rls:ee! Rl:=[.al,.le,.nx,.tu]
theorem zjO(s:Sto):jH [] s=bA! (rls.map λr=>D.str (nmR r)):=by rfl
open PySem.Builtin.Str
noncomputable def noR(r:Rl):D!:=[aq! (Txt.upper (nmR r)),aq! (nmR r++" "),aq! (rp! (nmR r) (b! 1)),aq! (nmR r++"s"),aq! "",an!,c! 3,n! [bv!],W! [bv!],eV!,.dct]
theorem zpW(h:d∈noR r)(s:Sto):vU [d] s=cg!:=by
 simp only[noR,_s,_W,_bc]at h;cases r<;>rcases h with rfl | rfl | rfl | rfl | rfl | rfl | rfl | rfl | rfl | rfl | rfl<;>kernel_rfl
theorem zhm(r:Rl) (h:Pot s l):∃d s',xr [dP!,bv!] s=bj! d/\d∈noR r/\vc s s' l:=by
 have st:zy [dI!,fW!,hi!] [dP!,bv!]=[F!,d2!,a!]:=rfl;have q1:z0x [F!,d2!,a!] s=aW! [F!,d2!,bg! (noR r)]:=by cases r<;>kernel_rfl
 obtain⟨x,s',e,a,b,dr⟩:=vJ (f:=q!) (g:=E! 11) (far:=11) (ρ:=[F!,d2!,bg! (noR r)]) h (by decide) (kO (by decide)) (by rfl) (by rfl);have hr:ol!<v! (noR r):=by simp[noR];omega
 have ix:=wT (xs:=noR r) (d:=(noR r)[x.toNat]) (s:=s') a (by simp[hr]);refine⟨(noR r)[x.toNat],s',?_,_O hr,dr⟩;simp only[xr,Mof,z0U,st,_i,_k,_v];rw[zn q1,z0C,yo,yH];simp only[yh,_d,_c,Rb];rw[e,Rb,ix,Rb]
theorem zq0(h:Pot s l) (hf:ay!=i! dP!):∃r s',hw! (zg jH zj) (ek! zC f (E! 4)) ρ s=bj! bv!/\vc s s' l:=by
 obtain⟨x,s',e,a,b,dr⟩:=vJ (f:=f) (g:=E! 4) (far:=4) (ρ:=ρ) h (by decide) (kO (by decide)) hf (by rfl);have hr:ol!<rls.length:=by simp[rls];omega
 refine⟨rls[x.toNat],s',?_,dr⟩;have ix:=wT (xs:=rls.map λr=>D.str (nmR r)) (d:=aq! (nmR rls[x.toNat])) (s:=s') a (by simp[hr]);rw[yH,yi,zK,Rb,zjO,Rb,e,Rb,ix]
end Po
namespace Po
open L2 Dd Pm Pg Pn
theorem zje{α:b4!} (og:okG G all s)(g f:α->D):∀(l:List α)(acc:List D),(∀x∈l,body (g x) s=i! (b! (f x)))->h9!+iL!<=cap->qu G all dF! kg! acc s=i! (acc++mU!)
 | [],acc,_,_=>by simp[qu,og] | x::xs,acc,hb,hl=>by
  rw[_p,qu,_h og,hb x (by simp),Rb];simp only[_h (show h9!<cap from by simp at hl;lia),(zje (all:=all) og g f xs (acc++[f x]) (cs! (hb y (by simp[hy]))) (by simp at hl ⊢;lia))];simp
theorem zhg{α:b4!} (g f:α->D)(ev:α->Ev)(l:eX!) (hi:fi ρ s=i! (kg!,G))(og:okG G kg! s)(hg:∀a∈l,fg (g a) jb! s=i! (ev a))(he:∀a∈l,fe (ev a) s=i! (f a))(hl:iL!<=cap): zv fi mp fg zU fe ρ s=bA! mU!:=by
 rw[uh,uJ,hi,Rb,zje og g f l [] (by
  intro a ha;simp only[hg a ha,Rb];simp[he a ha]) (by simpa using hl)];rfl
section
variable {n m:Nat}{r:Rl}{v:h!}{ls:f2!}
noncomputable abbrev RV(d e:D)(L:Nat)(a4 a5:fG!):Ev:=[g!,l!,ex! L,ex! (L+1),a4,a5]
theorem ziY{s:Sto} : (s++[x,y]).set ct! z=s++[z,y]/\(s++[x,y]).set (ct!+1) z=s++[x,z]:=by
 constructor;·simp
 ·simp
theorem za4{s:Sto} : G! (s++[x,y]) ct! x/\G! (s++[x,y]) (ct!+1) y:=by
 constructor;·simp
 ·simp
theorem zi9(hd:d=bv!) (hm:m<=hM!) (s:Sto) (Rn:gf! c):∀(pre:List (List Int)) (pt:List Tb) (a4 a5:Option D),oD! m c->pre.length+pz!<=50000->pt.length+pz!<=50000-> ∃b4 b5,vw (fg! (aG! xG (db! 2 d5!))) (a3! jO jw jN) (pz!+1) (kT! d e a4 a5) (s++[ed! [c],ih!])=K! (kT! d e b4 b5) (s++[ed! ls,f1! (pt++jA!)]):=by
 have cY:∀(pre:List (List Int)) (pt:List Tb) (c:List Int) (a4 a5:Option D),oD! m c->hw! N! d5! (kT! d e a4 a5) (s++[ed! [c],ih!])=.ok (rD c) (s++[ed! [c],ih!])/\jJ (tOf (aG! xG (db! 2 d5!))) (kT! d e a4 a5) (s++[ed! [c],ih!])=.ok (! ended c) (s++[ed! [c],ih!]):=λpre pt c a4 a5 h=>by
  have ix:=z7G (x:=mo!) (d:=rD c) (xs:=pre.map rD) (s:=s++[ed! [c],ih!]) (by rw[zW];simp);have hE:=zkB ei! (s++[ed! [c],ih!]);generalize (s++[ed! [c],ih!])=S at *;have e1:hw! N! d5! (kT! d e a4 a5) S=.ok (rD c) S:=by rw[op2 (x:=mo!) (y:=c! (-1)) p! (by rfl),ix]
  refine aw! e1 ?_;rw[jR,vz (b:=ended c) (by rw[yI e1,hE]),Rb]
 induction Rn with
 | @done v hend=>
  intro pre pt a4 a5 h hl gu;refine aN! a4 a5 ?_;rw[vw,(cY pre pt v a4 a5 h).2,hend];simp[zN] | @step v ls hend Rn ih=>
  intro pre pt a4 a5 h hl gu;obtain⟨b4,b5,ih⟩:=ih (pre++[v]) (pt++[fR!]) (bu! dA!) kt! (o8! hend) (by simp at hl ⊢;lia) (by simp at gu ⊢;lia);rw[_i,vw,(cY pre pt v a4 a5 h).2,hend,Rb];have mz:=zmR r h hend hm (s++[ed! [v],ih!]);rw[<- hd]at mz;have f4:jO (kT! d e a4 a5) (s++[ed! [v],ih!])=K! (kT! d e (bu! dA!) kt!) (s++[ed! [v],ih!]):=by
   rw[jO,zcx,call2 (x:=d) (y:=M!) p! ((cY pre pt v a4 a5 h).1),mz,Rb];rfl
  have f5:jw (kT! d e (bu! dA!) kt!) (s++[ed! [v],ih!])=K! (kT! d e (bu! dA!) kt!) (s++[eB! (pre++[v]++[dA!]),ih!]):=by
   have fl:(rD dA!).flat=d!:=yR _;rw[jw,z1o,z9o];simp only[yh,_c,_d,Rb,za4.1,_h (show (rD dA!).flat=d!/\v! (ed! [v])<cap from aw! fl (by simp[cap]at hl ⊢;lia)),ziY.1];simp
  have f6:jN (kT! d e (bu! dA!) kt!) (s++[eB! (pre++[v]++[dA!]),ih!])=K! (kT! d e (bu! dA!) kt!) (s++[eB! (pre++[v]++[dA!]),f1! (pt++[fR!])]):=by
   have ln:v! ih!<cap:=by simp[cap]at gu ⊢;lia
   rw[jN,z1o,z9o];simp only[yh,_c,_d,Rb,za4.2,_h (show (tD fR!).flat=d!/\v! ih!<cap from aw! (z9c _) ln),ziY.2];simp
  rw[zn f4,zn f5,f6,Rb];simp only;rw[ih,Rn.tabs_cons];simp
theorem zrx(r:Rl)(h:fo!)(Rn:gf! v)(hm:m<=hM!)(hl:o6!)(s:Sto):z1w [bv!,M!] s=.ok (n! [mo!,.loc (ct!+1)]) (s++[cS!,fj!]):=by
 have key:hL! (d=bv!->e=M!->z1w [d,e] s=.ok (n! [mo!,.loc (ct!+1)]) (s++[cS!,fj!])):=q5! (by
  have st:zy [fW!,bL!,pv!,pw!,os!,js!] [d,e]=[g!,l!,a!,a!,a!,a!]:=rfl;have f1:z0Q [g!,l!,a!,a!,a!,a!] s=K! [g!,l!,Q!,a!,a!,a!] (s++[[e]]):=by
   simp only[z0Q,zR,z9j,zr,zK,yh,_d,_c,Rb];rw[bP! (by simp[cap]) (by simp[flC,flN,(show e.flat=d! from by rw[he];exact (yR _))])];rfl
  have f2:z13 [g!,l!,Q!,a!,a!,a!] (s++[[e]])=K! (kT! d e a! a!) (s++[[e],[]]):=by
   simp only[z13,zR,z9j,zK,Rb];rw[bP! (by decide) (by rfl)];simp[RV]
  obtain⟨b4,b5,lp⟩:=zi9 (e:=e) hd hm s Rn [] [] none none h (by simpa using hl) (by simpa using hl);rw[_ar,show eB! [v]=[e] from by rw[he];rfl]at lp;simp only[z1w,Mof,z7A,st,_i,_k,_v];rw[zn f1,zn f2,zn (by rw[z58];exact z3m lp (by simp)),z59,yo,z1L];rfl)
 exact key _ _ rfl rfl
end
end Po
namespace Pr
open L2 Dd Pm Pg Pn Po
open PySem.W
theorem zqy(aD:∀i j,i<N->j<N->i≠j->lt j i=! lt i j)(tr:∀i j k,dk! i j->dk! j k->dk! i k)(hN:1<=N)(h:∀i j,i<j->j<N->dk! i j): d8! N (qK! N (go! N))=b! (N,go! N):=by
 have P:PmN N (go! N):=⟨by simp⟩;have at_:∀i,i<N->at0 (go! N) i=i:=fb! (by simp[hi])
 obtain⟨m,e1,e2,e3,e4,e5⟩:=zau aD tr P (N-1) 1 ak! (by lia) (λi j h1 h2=>by lia);have em:m=N:=by
  by_cases q:m<N
  ·exfalso;have z:=e5 (by lia);rw[at_ m q,at_ (m-1) (by lia),aD (m-1) m (by lia) q (by lia),h (m-1) m (by lia) q]at z;cases z
  ·lia
 unfold kas_count;rw[z0j,e1];simp only[_M];rw[_h (by simpa using em),em];rfl
theorem range_getD{L:f2!}:aP! aA! (λi=>cC! i)=L:=by
 apply _aR;·simp
 ·intro i h1 h2;simp[h2]
theorem znk(nd:L.Nodup)(h:aA!<64\/Up L):∃p,zr3 L=b! p/\qJ! (iC! aA!)/\Up (j6! (cC! i)):=by
 have aD:∀i j,i<aA!->j<aA!->i≠j->gO! (cC! j) (cC! i)=! gO! (cC! i) (cC! j):=λi j hi hj aJ=>by
  refine zfo λz=>aJ ?_;simp only[_n,_b hi,_b hj,_aE]at z;exact (_a1 nd).mp z
 have tr:∀i j k,gO! (cC! i) (cC! j)=d!->gO! (cC! j) dR!=d!->gO! (cC! i) dR!=d!:=λi j k=>zhr;unfold zr3;by_cases q:aA!<2
 ·rw[_h q];refine mH! _ (by simp) ?_;rw[show (go! aA!).toList=iC! aA! by simp,range_getD];match L,q with
  | [],_=>exact List.Pairwise.nil | [a],_=>exact List.pairwise_singleton _ _
 ·rw[_o q];by_cases q2:aA!<64
  ·rw[_h q2];obtain⟨p,e,h1,h2⟩:=zjN aD tr (by lia);exact⟨p,e,h1,by rw[Up,List.pairwise_map];exact h2⟩
  ·rw[_o q2];have hu:=h.resolve_left q2;rw[zqy aD tr (by lia) (λi j aJ hj=>by
    have:=List.pairwise_iff_getElem.mp hu i j (by lia) hj aJ;simpa[show i<aA! by lia,hj] using this)];simp only;rw[_h trivial];refine mH! _ (by simp) ?_;rw[show (go! aA!).toList=iC! aA! by simp,range_getD];exact hu
theorem zkn{d:D}(hd:l0! d=b! (F.map rD))(nd:F.Nodup)(h:F.length<64\/Up F)(ne:∀v∈F,a1! v):∃G:List (List Int),z8B s d=b! (G.map rD)/\Up G/\(∀x,x∈G ↔ x∈F)/\G.length=F.length:=by
 obtain⟨p,e,pm,up⟩:=znk nd h;have mem:∀i,i∈p.toList ↔ i<F.length:=λi=>by rw[pm.mem_iff,_aL]
 have ln:r4! F.length:=by have:=pm.length_eq;simpa using this
 refine⟨j6! (F.getD i []),?_,up,λx=>?_,by simpa using ln⟩
 ·have t := zcz F;unfold z8B;rw[hd];simp only[t,e];rw[_h]
  ·congr 1;rw[_ak];refine _a0 (fb! ?_);have:=(mem i).mp hi;simp[this]
  ·refine⟨?_,?_,by simpa using ln⟩
   ·rw[_P];intro v hv;have:=ne v hv;cases v with
    | nil=>exact gt! jq! | cons a b=>rfl
   ·rw[_P];intro i hi;simpa using (mem i).mp hi
 ·have:(j6! (F.getD i [])).Perm F:=by
   have:=pm.map (λi=>F.getD i []);rwa [range_getD]at this
  exact this.mem_iff
end Pr
namespace Dt
noncomputable def at_(pB:rt!)(i:Nat):Keyed:=pB.getD i (Value.none,Value.none)
structure Env(prog:Program)(w:World)(A:Around)(s:Shared)(κ:SortKind)(P:Keyed->k!)(rk:Keyed->Nat):k! where er:∀x y,P x->P y->∀(C:Bool->Shared->Prop)(E:Value->Shared->Prop),C (a5! (rk x<rk y)) s->cF! w A (keyLt' κ x.1 y.1) C E s
section
variable {rk:Keyed->Nat}{a b x y r:rt!}
noncomputable def write(a r:rt!)(sa:Nat):rt!:=r.toList.zipIdx.foldl (λa p=>a.setIfInBounds (sa+p.2) p.1) a
end
section
variable {prog:Program}{w:World}{A:Around}{E:bX!}{s:Shared}{κ:SortKind}{a₀:rt!}{rk:Keyed->Nat}(V:Env m9! w A s κ (· ∈ a₀.toList) rk) {st:SortSt}
structure SB(κ:SortKind)(a₀:rt!)(st:SortSt):k! where
 perm:(pq! st).Perm a₀
 kind:kindOf st=κ
 failed:failedOf st=a!
end
end Dt
namespace L2
noncomputable def zuZ(lo:Int)(n:Nat):It:=⟨λi _=>i<n,λi H x H'=>H'=H/\x=c! (lo-i),λi _=>n<=i⟩
theorem zhB{P:Program} {w:World} {K:W.Frag} {tg:Expr} (it:Addr) (lo:Int) (n:Nat):zkf P w K tg (zuZ lo n) [it] it (λi h=>IsRangeIter h it (lo+ez! i*(-1)) (j! n-ez! i) (-1)) where
 mem:=by simp
 obj:=λi h st b hb=>by
  have e:b=it:=by simpa using hb
  subst e;exact bM! st (λv z=>by
   have z' := z;cases z')
 keep:=λi h h' st k=>k it (by simp) _ st;item:=by
  intro X hP hw hK hc i ae s O H E I hf st hg;subst hP hw hK;obtain⟨f0,f1,f2,f3,f4,f5⟩:=hf it (by simp);have W:=Walks.range (prog:=X.prog) (w:=X.w) hl! it lo (-1) n;refine W.item i s _ _ hg st λv h' tk hv ay kk=>?_;obtain⟨t,rfl⟩:=hv;have I1:lI! ({s with heap:=h',toks:=tk}):=I.turned (kA! (kk b o (by simpa using hb) e)) f0 f1 f3 f4 f5;refine aB! _ (zjJ ay rfl rfl (by decide) ⟨c! (lo-i),H,I1,aw! t ?_,cf! rfl,ay,cr! (hf b hb).1⟩);rw[show lo+j! i*-1=lo-i by lia]
 done:=by
  intro X hP hw hK hc i ae s O H E I hf st hg;subst hP hw hK;obtain⟨f0,f1,f2,f3,f4,f5⟩:=hf it (by simp);exact wpAny_pyNext_range_end hl! st (by have:n<=i:=hg;lia) λh' eb=>fc! (I.turned (t':=s.toks) (kA! (eb b o hb e)) f0 f1 f3 f4 f5)
 self:=λ_ _ _ _ _ st h=>wpAny_pyIter_rangeiter st h
section
variable {X:Cx}{tg:Expr}
theorem zcX{a b:Int}:Builtin.Range.rangeSize a b (-1)=ab! (fy! (a-b)):=by
 unfold Builtin.Range.rangeSize;rw[_o (by lia)];by_cases h:b<a;·first
   | (rw[_h (by lia)];simp;lia) | (simp[h];lia)
 ·first
   | (rw[_o (by lia)];lia) | (simp[h];lia)
theorem small_down{a b:Int}(h1:-fv!<=a)(h2:dn! a)(h3:-fv!<=b)(h4:dn! b):Builtin.Range.small a b (-1)=d!:=by
 unfold Builtin.Range.small;rw[zcX];simp only[Builtin.Range.rangeFitsLong,_R,Bool.or_eq_true,_ax,_az];refine⟨by lia,T! ?_⟩;rw[_o (by lia)];simp only[_R,_ax];lia
theorem zn4{a b c:Expr} {ta:TA} {p pos:Pos} (hg:o2!) (hm:dM! ft!) (ha:PA X [a,b,c] ta) (bT:y! (au! [a,b,c]=[d1! a,d1! b,d1! c])) (dh:y! (au! [b,c]=[d1! b,d1! c])): PI X tg (do! ft! p [a,b,c]) (λO H R=>ta O H λvs H1=>∃i j:Int,vs=[Y!,c! j,c! (-1)]/\(-fv!<=i/\dn! i/\-fv!<=j/\dn! j)/\R (zuZ i (i-j).toNat) H1):=by
 intro ae s O H R I h;refine Call_ (z2b I hg hm boot_range (_ab (thn (ha pos ae s O H _ I h) λus s1 ⟨vs,H1,I1,r1,q1⟩=>?_) (by rw[bT,dh]) (by rw[dh];rfl)));obtain⟨i,j,e,⟨b1,b2,b3,b4⟩,q⟩:=q1;subst e;cases r1 with | cons r r1=>cases r1 with | cons r' r1=>cases r1 with | cons pC r1=>
    cases r1;obtain⟨t,rfl⟩:=r;obtain⟨t',rfl⟩:=r';obtain⟨gI,rfl⟩:=pC;refine call_range_3 (by lia) ?_ (z! (_bL (by decide +kernel)));refine wpAny_pyIter_range (IsRange.new ..) (small_down b1 b2 b3 b4) ?_;have I2:cQ! H1 ({s1 with heap:=qh! ({cls:=lP!,data:=eJ! #[bS! i,bx! j t',bx! (-1) gI]}),toks:=s1.toks}):=n5! (lW! _ e);refine⟨eg! (qh! ({cls:=lP!,data:=eJ! #[bS! i,bx! j t',bx! (-1) gI]})),[eg! (qh! ({cls:=lP!,data:=eJ! #[bS! i,bx! j t',bx! (-1) gI]}))],_,_,H1,rfl, I2.kept (lW! _ e),zhB _ i (i-j).toNat,?_,cr! ?_,q⟩
    ·have e1:i+ab! 0*(-1)=i:=by simp
     have e2:ab! (fy! (i-j))-ab! 0=Builtin.Range.rangeSize i j (-1):=by rw[zcX];lia
     show IsRangeIter _ _ (i+ab! 0*(-1)) (ab! (fy! (i-j))-ab! 0) (-1);rw[e1,e2];exact g9!
    ·have e:b=eg! (qh! ({cls:=lP!,data:=eJ! #[bS! i,bx! j t',bx! (-1) gI]})):=by simpa using hb
     subst e;exact I2.fpOk ak! (I2.hok.fresh ak!)
end
end L2
namespace Dd
open L2
section
variable {X:Cx}{E:XK}{a b c tg:Expr}{pos:Pos}
noncomputable def ui(i:Int)(n:Nat):D!:=aP! n (λ(k:Nat)=>aK! (i-ab! k))
noncomputable def zgC(f:FA):FI:=b7! ay! (iJ! (match ds with
 | [.int i,.int j,.int (-1)]=>ac! (-fv!<=i/\dn! i/\-fv!<=j/\dn! j) (P! (ui i (i-j).toNat,[])) | _=>.no))
theorem zqg{p:Pos}{f:FA}(hg:o2!)(hm:dM! ft!)(ha:RA X E [a,b,c] f)(bT:y! (au! [a,b,c]=[d1! a,d1! b,d1! c]))(dh:y! (au! [b,c]=[d1! b,d1! c])):RI X E tg (do! ft! p [a,b,c]) (zgC f):= z8G (zn4 hg hm ha bT dh) λO H Q ⟨Y,ρ,s,r,en,h⟩=>by
  unfold zgC at h;refine⟨Y,ρ,s,r,en,de! h (λvs H1 ⟨Y1,s1,ds,stp,dn,h1⟩=>?_)⟩;split at h1
  ·rename_i i j;split at h1
   ·rename_i hj;simp only[yp]at dn;obtain⟨v1,r1,rfl,d1,v2,r2,rfl,d2,v3,r3,rfl,d3,rfl⟩:=dn;cases yx d1;cases yx d2;cases yx d3;refine gW! i j hj (oI! (λH2 Y2 s2 ag _ k=>⟨hI! ?_,λhl=>?_⟩))
    ·have hi:k<fy! (i-j):=by
      have:=cV! hd;simpa[ui] using this
     refine⟨hi,λx H' ⟨e1,e2⟩=>?_⟩;subst e1 e2;refine⟨Y2,.refl jp!,?_⟩;have e3:d=aK! (i-k):=by
      simp only[ui,_C,_aF hi,_ah,_y]at hd;exact hd.symm
     rw[e3];exact yK
    ·have:v! (ui i (i-j).toNat)=fy! (i-j):=by simp[ui]
     show fy! (i-j)<=k;rw[<- this];exact hl
   ·exact h1.elim
  ·exact h1.elim
@[simp] theorem zo2(f:FA)(ρ:Ev)(s:Sto):zgC f ρ s=j8! (iJ! (match ds with
 | [.int i,.int j,.int (-1)]=>ac! (-fv!<=i/\dn! i/\-fv!<=j/\dn! j) (P! (ui i (i-j).toNat,[])) | _=>.no)):=U!
noncomputable def zet:D->D->bm!:=lZ! (ac! (j≠0/\kE!<BIG) (iOk (c! (i.fdiv j))))
theorem zke:gB! .FloorDiv (rI (λ_ j=>j≠0/\kE!<BIG) (mJ! (i.fdiv j))):=opI λi j _ _ _ _ _ hc q=> floordiv_int hc.1 q (z! (_bL (zhh hc.2)))
theorem zoH:∃r,gB! .FloorDiv r/\c0! zet:=bM! zke (lJ! (by
 split at e
 ·rename_i hc;simp only[iOk,R.ok.injEq]at e;exact⟨i,j,rfl,rfl,hc,q _ (by intro H Y;rw[<- e.1];exact yK)⟩
 ·cases e))
noncomputable def z8z:D->D->bm!:=lZ! (ac! (eL!<2 ^ (2 ^ 16)/\kE!<2 ^ (2 ^ 16)) (iOk (c! (i*j))))
theorem zbX{i:Int}(h:eL!<2 ^ (2 ^ 16)):Builtin.Int.intBits i<=2 ^ 20:=by
 have q:=(PySem.intBits_le_iff).mpr h;exact _Z q (by decide)
theorem zoh:nD! (rI (λi j=>eL!<2 ^ (2 ^ 16)/\kE!<2 ^ (2 ^ 16)) (mJ! (i*j))):=opI λ_ _ _ _ _ _ _ hc q=>mul_int q (IntMulOk.of_bits (zbX hc.1) (zbX hc.2))
theorem ziI:∃r,nD! r/\c0! z8z:=bM! zoh (lJ! (by
 split at e
 ·rename_i hc;simp only[iOk,R.ok.injEq]at e;exact⟨i,j,rfl,rfl,hc,q _ (by intro H Y;rw[<- e.1];exact yK)⟩
 ·cases e))
theorem zkr{i j:Int}(h:j≠0)(hb:kE!<BIG)(s:Sto):zet Y! (c! j) s=x! (i.fdiv j):=by
 simp only[zet,dII,iOk];rw[bP! h hb]
theorem zhy{i j:Int}(h:eL!<2 ^ (2 ^ 16))(hb:kE!<2 ^ (2 ^ 16))(s:Sto):z8z Y! (c! j) s=x! (i*j):=by
 simp only[z8z,dII,iOk];rw[bP! h hb]
end
end Dd
namespace aW
open L2 Dd Pg
noncomputable def rsX:ao!:=[hc!,hd!,je!,jf!]
noncomputable def csX:ao!:=[hc!,je!,nT!,nU!,jf!,nS!,hd!,nJ!,nK!,nO!,nL!,nQ!,nN!,nV!,nR!,nM!,nP!]
@[simp] noncomputable def z5H:FS:=(yz 1 (qt (dT! (hY! hc!) (hY! je!) (hY! nT!) (hY! nU!) zj)))
@[simp] noncomputable def z5h:FS:=(yz 1 (iQ! 1 (qt (dT! (hY! jf!) (hY! nS!) (hY! hd!) (hY! nJ!) zj))))
@[simp] noncomputable def z5D:FS:=(yz 1 (iQ! 1 (qt (dT! (hY! nK!) (hY! nO!) (hY! nL!) (hY! nQ!) zj))))
@[simp] noncomputable def z5C:FS:=(yz 1 (iQ! 1 (qt (dT! (hY! nN!) (hY! nV!) (hY! nR!) (hY! nM!) zj))))
@[simp] noncomputable def z5p:FS:=(yz 1 (iQ! 1 (qt (aU! (hY! nP!)))))
@[simp] noncomputable def z5x:FS:=(xb (bG! "other"))
@[simp] noncomputable def z5J:FS:=(aX! (fOr (eC! (zqD r! (eC eV!)) ae!) (fg! (zv5 rsX q!))) z5x)
@[simp] noncomputable def z5s:FS:=(yz 2 (qt (dT! (bG! ai!) (bG! eu!) (bG! dr!) (bG! "alike") (dT! (bG! "fair") (bG! "text") (bG! cv!) (bG! "ended") (aU! (bG! "bottom"))))))
@[simp] noncomputable def z5A:FS:=(yz 2 (iQ! 2 (qt (dT! (bG! "root") (bG! "cube") (bG! me!) (bG! hJ!) (dT! (bG! "many") (bG! "step") (bG! "deed") (bG! "row") zj)))))
@[simp] noncomputable def z46:FS:=(xb (db! 2 (zqt r! (eC eV!))))
noncomputable def z7E:FS:=(du! z5H z5h z5D z5C (du! z5p z5J z5s z5A z46))
noncomputable def vk:Mir:=c1! [pH!,hi!,"_law_words"] z7E
@[simp] noncomputable def z0a:FS:=(yz 1 cX!)
@[simp] noncomputable def z0t:FS:=(yz 2 (z1Q (z54 (cd! q! (bN! Pg.xE 1))) iW! (yT 0 1) zU (bc! (bq! z2t) (bN! z2t 1))))
@[simp] noncomputable def vO:FS:=(yz 4 (iR! (zdh (hP! 3 1)) (fm! 3 2) 2 (eC! (cl! (bl! 2) q!) B!) N!))
@[simp] noncomputable def vQ:FS:=(yz 5 (cl! (cl! (aG! zbj (iS! (zP (zd 4)) (fm! 3 2) 2 (dD! (aG! zlv (cl! (bl! 2) q!)) N!))) B!) ae!))
@[simp] noncomputable def vZ:FS:=(yz 6 (ce! 2 5))
@[simp] noncomputable def vT:FS:=(z1g N! (zd 5) (ce! 2 3))
@[simp] noncomputable def uf:FS:=(z1g N! be! (zd 6))
@[simp] noncomputable def uS:FS:=(yz 8 (eOp zet (cl! (ce! 2 7) be!) (ce! 6 3)))
@[simp] noncomputable def uV:FS:=(z1g N! (zd 7) (zv (z54 (cd! (zd 6) (ce! 2 7))) (dw! 8) (yT 1 2) zU (ks! 2 (ej! z8z 0 r!))))
@[simp] noncomputable def vj:FS:=(g7! (zdh (ib! (f7! 3) 1)) 7 (zA uS uV))
@[simp] noncomputable def qP:FS:=(z29 (eC! (iR! (zP (e4! N! (f7! 3))) (ad! 3) 1 (eC! (bl! 0) B!) r!) (qt zj)) (zA vO (du! vQ vZ vT uf vj)))
@[simp] noncomputable def z07:FS:=(g7! (ep! 1) 3 qP)
@[simp] noncomputable def qd:FS:=(z1g N! be! (iS! (zP (ce! 2 3)) (fm! 3 2) 2 (ej! z8z 2 (cl! (bl! 0) q!))))
@[simp] noncomputable def qa:FS:=(yz 6 (ce! 2 3))
@[simp] noncomputable def qf:FS:=(yz 8 (cl! (ce! 2 7) be!))
@[simp] noncomputable def uO:FS:=(z1g N! (zd 7) (zv (z54 (cd! (zd 6) (ce! 2 7))) (dw! 8) (yT 1 2) zU (ks! 2 (ej! z8z 0 r!))))
@[simp] noncomputable def uQ:FS:=(g7! (ep! 3) 7 (a3! qa qf uO))
@[simp] noncomputable def jX:FS:=(g7! (zgC (zb (ks! 1 ae!) (cd! d5! d5!))) 3 (zA qd uQ))
@[simp] noncomputable def jZ:FS:=(xb (dj! (zP N!) cb! 1 (aG! zV (e4! r! q!))))
noncomputable def z4z:FS:=(du! z0a z0t z07 jX jZ)
noncomputable def jp:Mir:=z5F (c1! [js!,fV!,nr!,eP!,"_law_good","_law_first","_law_head",cw!,mh!] z4z)
@[simp] noncomputable def jU:FS:=(zgl (cM! Pg.z0k) (yT 2 3))
@[simp] noncomputable def km:FS:=(yz 4 (aG! Pg.xE (hR! 1)))
@[simp] noncomputable def uP:FS:=(yz 4 (gu! Pg.jY 4 5))
@[simp] noncomputable def kf:FS:=(g7! kw! 5 uP)
@[simp] noncomputable def jT:FS:=(yz 6 (bN! jp 4))
@[simp] noncomputable def kw:FS:=(yz 7 (cl! (zv (z2G (aU! (db! 2 d5!))) iW! (yT 0 1) (eT! dGt r! B!) q!) B!))
@[simp] noncomputable def ku:FS:=(xb (bc! (qt (aU! (ce! 6 7))) (zv (z2G (b6! 6)) (dw! 7) (yT 1 2) (el! 1 q!) N!)))
noncomputable def z3o:FS:=(zA jU (du! km kf jT kw ku))
noncomputable def qo:Mir:=z5F (cK! [fW!,bL!,pv!,pw!,"_law_whole_here",js!,hK!,eP!] z3o)
@[simp] noncomputable def z2p:FS:=(xb iv!)
@[simp] noncomputable def xO:FS:=(aX! (i8! (mF! r!) (fOr (eC! (hR! 1) (E! 3)) (i8! (aG! Pg.xp (hx! 1)) (eT! dLt (hx! 1) ae!)))) z2p)
@[simp] noncomputable def z2u:FS:=(xb iv!)
@[simp] noncomputable def xc:FS:=(aX! (i8! (ek! pI! (db! 1 ae!) cX!) (fg! (ek! pI! (db! 1 (E! 2)) cX!))) z2u)
@[simp] noncomputable def z2m:FS:=(xb iv!)
@[simp] noncomputable def xL:FS:=(aX! (eC! (zv (z54 (ib! (db! 1 ae!) 0)) (dw! 1) (yT 1 2) (eC! (fK! 1 (hx! 0)) N!) ae!) (qt zj)) z2m)
@[simp] noncomputable def vy:FS:=(xb (eOp dEq (ek! Pg.kL (db! 1 (E! 2)) q!) (hx! 1)))
noncomputable def wu:FS:=(zA xO (a3! xc xL vy))
noncomputable def ye:Mir:=cK! [bL!,ew!] wu
@[simp] noncomputable def wD:FS:=(zgl N! (zoW 3 4 5))
@[simp] noncomputable def wL:FS:=(yz 6 (cl! (qt (dT! ae! (gA! (E! 2) be!) (eOp z8L B! be!) B! (dT! (eC eV!) (eC an!) (bG! "1") (vG (b6! 3)) (aU! (f7! 3))))) (dx! pJ! (E! 9))))
@[simp] noncomputable def wC:FS:=(yz 7 (dj! (zP (zd 5)) [a!] 0 (gA! (E! 2) q!)))
@[simp] noncomputable def wz:FS:=(yz 8 (qt (zb (vG (fr! (zd 6) 4 5)) (cd! (vG (zb be! (ib! (gu! Pg.ux 0 4) 5))) (vG (zb be! (cd! (zd 4) (gu! Pg.ux 0 5))))))))
@[simp] noncomputable def wH:FS:=(yz 8 (iQ! 8 (qt (dT! (vG (fr! be! 5 4)) (vG (fr! ae! 1 5)) (vG (fr! be! 1 5)) (vG (fr! (gA! (E! 2) be!) 4 7)) zj))))
@[simp] noncomputable def wE:FS:=(yz 8 (iQ! 8 (qt (dT! (bN! z2t 2) (vG (zb be! (ib! (bN! z2t 4) 5))) (gc! N! (E! 2)) (iQ! 2 (vG (aU! B!))) (aU! (bq! Pg.kD))))))
@[simp] noncomputable def wF:FS:=(xb (db! 8 (dx! pJ! (E! 12))))
noncomputable def qJ:FS:=(a3! wD wL (du! wC wz wH wE wF))
noncomputable def yr:Mir:=Mof [dI!,bL!,ew!,ox!,nq!,lC!,qV!,"_law_wide",hi!] 3 qJ
@[simp] noncomputable def xU:FS:=(xb (ziL (cl! (qt (cd! (eC (.fn m7!)) (eC (.fn m6!)))) q!) [(m7!,Pg.uj),(m6!,Pg.wI)] (hP! 1 2)))
@[simp] noncomputable def z01:FS:=(xb (bN! vk 3))
@[simp] noncomputable def z02:FS:=(zqr rsX xU 3 z01)
noncomputable def z19:FS:=z02
noncomputable def zT:Mir:=Mof ["_law_way",eh!,d0!,pH!] 3 z19
@[simp] noncomputable def z6f:FS:=(yz 2 (aG! Pg.kK (cM! Pg.ve)))
@[simp] noncomputable def z7S:FS:=(yz 3 (bN! Pg.z1C 2))
@[simp] noncomputable def z7j:FS:=(yz 4 (cl! (zg Pg.jH zj) (ek! pJ! N! (E! 4))))
@[simp] noncomputable def z6y:FS:=(yz 5 (bN! Pg.z1B 3))
@[simp] noncomputable def z6S:FS:=(yz 6 (vG (zb (zd 5) (cd! (dj! kw! (ad! 5) 1 (ej! z3Y 1 q!)) (cl! (gu! qo 4 3) B!)))))
@[simp] noncomputable def znG:FS:=(xb iv!)
@[simp] noncomputable def z77:FS:=(aX! (i8! (zg Pg.uB (ib! (zg zT (fr! B! 4 3)) 6)) (fg! (zg Pg.uB (ib! (zg zT (fr! B! 4 3)) 6)))) znG)
@[simp] noncomputable def zkp:FS:=(xb iv!)
@[simp] noncomputable def z31:FS:=(aX! (fg! (ek! Pg.uB (zg zT (fr! ae! 3 7)) (gu! ye 3 7))) zkp)
@[simp] noncomputable def z6W:FS:=(g7! (zP (bc! (qt (b6! 6)) (iS! (jW (aU! (E! 4))) (fl! 2 3 6) 3 (zg yr (fr! q! 1 2))))) 7 z31)
@[simp] noncomputable def z3f:FS:=(yz 8 (gu! Pg.ux 2 3))
@[simp] noncomputable def zkT:FS:=(xb iv!)
@[simp] noncomputable def z3C:FS:=(aX! (zlM (fg! (bN! Pg.yJ 8)) (eC! (qt (cd! (zg zT (fr! B! 4 8)) (zg zT (fr! ae! 8 6)))) (eOp zrG (qt (aU! (bG! ai!))) (E! 2)))) zkT)
@[simp] noncomputable def zld:FS:=(xb iv!)
@[simp] noncomputable def z3p:FS:=(aX! (eC! (zg zT (zb B! (cd! (gu! Pg.xr 2 4) (cl! (qt (hP! 3 8)) (ek! pJ! N! (E! 2)))))) (bG! cv!)) zld)
@[simp] noncomputable def zdp:FS:=(g7! (jW (aU! (ek! zkR ae! (ek! zlb cX! (E! 12))))) 1 (zA z6f (du! z7S z7j z6y z6S (du! z77 z6W z3f z3C z3p))))
@[simp] noncomputable def zkx:FS:=(xb (eC eV!))
noncomputable def zlt:FS:=(zA zdp zkx)
noncomputable def zoe:Mir:=c1! [mf!,qQ!,dI!,bL!,fW!,ox!,mi!,ew!,"_law_bad"] zlt
end aW
set_option maxHeartbeats 6000000
namespace aW
open L2 Dd Pg
class Txt (P:Program)(w:World)(K:W.Frag)(mg:Str->aL!):k! where
 f0:∃t,mg "LEAST_SIZE"=b! (bS! 2)
 f1:∃t,mg "MOST_SIZE"=b! (bS! 4)
 f2:hz! iy!
 f3:hz! "abs"
 f4:hz! jd!
 f5:hz! fS!
 f6:hz! gH!
 f7:hz! et!
 f8:hz! gI!
 f9:hz! "len"
 f10:hz! ef!
 f11:hz! nH!
 f12:hz! nI!
 f13:hz! ft!
 f14:hz! lf!
 f15:hz! gj!
 f16:hz! "sum"
 f17:hz! dr!
 f18:hz! iA!
 q:∀(i:Nat){x:Str}{st:Stmt},am! askQ.fs (x,st)->Fq K mg x st
 T_RULES:zq5 P w K mg "RULES" z3i
 E_NoRule:zoV K mg hd!
 E_NoLot:zoV K mg hc!
 E_NoTable:zoV K mg je!
 E_NotFair:zoV K mg jf!
 FM:zep ⟨mg,K⟩ rsX csX
 KS:∀c∈rsX,zsT K mg c lg!
theorem zpp:lk! "abs"=hV! "abs":=by decide +kernel
theorem zec:lk! jd!=hV! jd!:=by decide +kernel
theorem z7l:kO! fS! (av! fS!):=by decide +kernel
theorem zc9:kO! et! (av! et!):=by decide +kernel
theorem yW:lk! "len"=hV! "len":=by decide +kernel
theorem z0W:kO! ef! dd!:=by decide +kernel
theorem z2R:lk! nH!=hV! nH!:=by decide +kernel
theorem zid:lk! nI!=hV! nI!:=by decide +kernel
theorem zaY:lk! lf!=hV! lf!:=by decide +kernel
theorem zm1:kO! gj! (av! gj!):=by decide +kernel
theorem zlR:lk! "sum"=hV! "sum":=by decide +kernel
theorem zS:kO! dr! dK!:=by decide +kernel
theorem zw5:a4! [ox!,cw!]:=by decide +kernel
theorem zvt:a4! [dI!,bL!,mi!,"_law_turn"]:=by decide +kernel
theorem zvd:a4! [cw!]:=by decide +kernel
theorem zvo:a4! [ev!,cw!]:=by decide +kernel
theorem zvu:a4! [eP!,ev!,gm!]:=by decide +kernel
theorem zv2:a4! [fV!,gm!]:=by decide +kernel
theorem zvY:a4! [gm!,"_law_column"]:=by decide +kernel
theorem zvF:a4! [bL!,ev!]:=by decide +kernel
theorem zvf:a4! [np!,cw!,ev!]:=by decide +kernel
theorem zw1:a4! [qT!,np!,bL!,ev!]:=by decide +kernel
theorem zsc:a4! [or!,ev!]:=by decide +kernel
theorem zuN:a4! [nq!,bL!,or!,ev!,cw!]:=by decide +kernel
theorem zu8:a4! [ev!,"_law_column"]:=by decide +kernel
theorem zs6:a4! [eh!,d0!,eP!]:=by decide +kernel
theorem zpP:a4! [eP!,gm!]:=by decide +kernel
theorem zuP:a4! [qS!,eP!]:=by decide +kernel
theorem zud:a4! [eP!,"_law_side"]:=by decide +kernel
theorem zu4:a4! [gm!,lC!]:=by decide +kernel
theorem zng:a4! [eP!,nr!,cw!]:=by decide +kernel
theorem zqT:a4! [mh!,qR!,lC!]:=by decide +kernel
theorem zuG:a4! [eh!,d0!]:=by decide +kernel
theorem zsZ:a4! [ia!,hJ!]:=by decide +kernel
theorem zs7:a4! [ai!,cu!]:=by decide +kernel
theorem zuC:a4! [cv!,"ahead"]:=by decide +kernel
theorem zu2:a4! [lA!,op!,eu!,cu!]:=by decide +kernel
theorem ztr:a4! [op!,cu!,eu!,lz!]:=by decide +kernel
theorem zt9:a4! [ia!,q8!]:=by decide +kernel
theorem zuz:a4! mV!:=by decide +kernel
theorem zs2:a4! ["part"]:=by decide +kernel
theorem ztu:a4! [iK!,cu!]:=by decide +kernel
theorem zt0:a4! [jr!,lz!,hJ!]:=by decide +kernel
theorem ztq:a4! [qM!,cu!]:=by decide +kernel
theorem zrE:a4! [hJ!]:=by decide +kernel
theorem zuo:a4! [ai!,hh!,hJ!,q8!]:=by decide +kernel
theorem zuR:a4! ["divided",ai!,hh!,"at"]:=by decide +kernel
theorem ztJ:a4! [qN!,"at"]:=by decide +kernel
theorem zts:a4! [cv!,hh!,cu!,q8!]:=by decide +kernel
theorem zte:a4! [lA!,cu!]:=by decide +kernel
theorem zto:a4! [cu!,lz!]:=by decide +kernel
theorem zsX:a4! ["one",lz!]:=by decide +kernel
theorem zuK:a4! [kH!,cu!]:=by decide +kernel
theorem ztO:a4! [eu!,"at"]:=by decide +kernel
theorem ztb:a4! ["at",cu!]:=by decide +kernel
theorem zsM:a4! [oq!,cw!]:=by decide +kernel
theorem ztZ:a4! [ew!,eh!,d0!]:=by decide +kernel
theorem zsG:a4! [eh!]:=by decide +kernel
section
local macro_rules | `(tactic| trivial)=>`(tactic| exact⟨rfl,rfl,rfl,by decide +kernel,rfl,by decide +kernel,by decide +kernel⟩)
theorem zdK:S! df! df! z7w:=by trivial
theorem zdZ:S! df! df! z6J:=by trivial
theorem z0v:S! mV! mV! z0w:=by trivial
theorem zdm:S! [cu!,kH!] [cu!,kH!] z6b:=by trivial
theorem z26:S! [me!,lA!] [me!] z2d:=by trivial
theorem z9S:S! [eu!] [eu!] z38:=by trivial
theorem z96:S! [jr!,"at_line",qM!,"kept"] [jr!,"at_line",qM!] z9i:=by trivial
theorem zfB:S! [cu!,lz!] [cu!,lz!] z9g:=by trivial
theorem uv:S! [ai!,"at"] hX! uu:=by trivial
theorem z81:S! hX! hX! z23:=by trivial
theorem zfN:S! [ai!,qN!] [ai!,qN!] z9r:=by trivial
theorem zfy:S! df! df! z8T:=by trivial
theorem zjY:S! [cv!,kH!] [cv!,kH!] zf2:=by trivial
theorem z6H:S! [mf!,qQ!] [mf!,qQ!] z0V:=by trivial
theorem uD:S! ["_law_cell",cw!,"_law_j",oq!] ["_law_cell"] z7V:=by trivial
theorem z4D:S! [dI!,qU!,hK!] [dI!,qU!] z5c:=by trivial
theorem zaj:S! [] [] z2F:=by trivial
theorem zY:S! [fW!,bL!,fV!,"_law_order",np!,or!,qT!,hi!,nq!,ev!,os!,nr!,gm!] [fW!,bL!] z4s:=by trivial
theorem z9C:S! [bL!] [bL!] z2C:=by trivial
theorem zag:S! [fV!] [fV!] z3u:=by trivial
theorem uE:S! [js!,kI!,hK!,gm!,pt!,eh!,d0!] [js!,kI!] z79:=by trivial
theorem z0p:S! [eh!,d0!,pt!,qR!,lC!] [eh!,d0!] z6G:=by trivial
theorem za7:S! [ew!] [ew!] z3z:=by trivial
theorem ja:S! [kI!,hK!,cw!,d0!] [kI!] z69:=by trivial
theorem yL:S! [pH!,hi!,"_law_words"] [pH!] z0T:=by trivial
theorem za3:S! [iK!,"many"] [iK!,"many"] z2B:=by trivial
theorem z8u:S! [jr!,kH!] [jr!,kH!] z1Y:=by trivial
theorem zcO:S! [jr!] [jr!] z4N:=by trivial
theorem z8U:S! [ai!,qO!,qP!] hX! z98:=by trivial
theorem z7g:S! [ai!,qO!,qP!] hX! z6k:=by trivial
theorem zbB:S! [ai!,hh!] hX! zbs:=by trivial
theorem zg3:S! hX! hX! z9p:=by trivial
theorem z4Z:S! df! df! z4H:=by trivial
theorem wA:S! [dI!,fV!,qU!,"_law_thin",kI!,ev!,cw!,oq!] [dI!] z7q:=by trivial
theorem z04:S! [fW!,bL!,pv!,pw!,os!,js!] [fW!,bL!] z6u:=by trivial
theorem jj:S! [eh!,d0!,fV!,qS!] [eh!,d0!] z0Y:=by trivial
theorem yw:S! [js!,fV!,nr!,eP!,"_law_good","_law_first","_law_head",cw!,mh!] [js!] z5b:=by trivial
theorem z3V:S! [ew!,mh!] [ew!,mh!] kN:=by trivial
theorem z18:S! [dI!,fW!,hi!] [dI!,fW!] z1u:=by trivial
theorem z1O:S! [ew!,cw!] [ew!] z1V:=by trivial
theorem z6K:S! [dI!,hi!] [dI!] z7f:=by trivial
theorem zcU:S! [hK!,mi!] [hK!,mi!] z4E:=by trivial
theorem zgX:S! df! df! zcI:=by trivial
theorem zdA:S! df! df! z6C:=by trivial
theorem z2w:S! [cv!,ai!,"deal",hh!,"divided"] dg! z7i:=by trivial
theorem zfJ:S! [ai!,iK!,hJ!] [ai!,iK!,hJ!] z8W:=by trivial
theorem xI:S! [fW!,bL!,pv!,pw!,"_law_whole_here",js!,hK!,eP!] [fW!,bL!] z2J:=by trivial
theorem vD:S! [dI!,"_law_row",eP!,qV!,hi!] [dI!,"_law_row"] z4W:=by trivial
theorem z32:S! [bL!,ew!] [bL!,ew!] jE:=by trivial
theorem z6n:S! df! df! z6d:=by trivial
theorem z3q:S! df! df! z3c:=by trivial
theorem yn:S! [dI!,bL!,ew!,ox!,nq!,lC!,qV!,"_law_wide",hi!] [dI!,bL!,ew!] qG:=by trivial
theorem z2O:S! [ai!,ia!,hJ!] hX! zbl:=by trivial
theorem zcg:S! hX! hX! z4A:=by trivial
theorem zay:S! mV! mV! z2Z:=by trivial
theorem zaB:S! [eu!] [eu!] z3E:=by trivial
theorem qH:S! dg! dg! qL:=by trivial
theorem z2H:S! [ai!,iK!,ia!,lB!,cu!] [ai!,iK!] z3h:=by trivial
theorem jV:S! [eu!,op!,lA!] [eu!] z1S:=by trivial
theorem vB:S! [me!,no!,"products",eu!] [me!,no!] jr:=by trivial
theorem zcv:S! dg! dg! z5a:=by trivial
theorem zdj:S! [cv!,ai!,hh!,lB!,"left"] dg! zh2:=by trivial
theorem z37:S! [cv!,ai!,hh!,lB!] dg! z3e:=by trivial
theorem zlu:S! [cv!,ai!,"lots"] dg! zmg:=by trivial
theorem zb0:S! dg! dg! z4F:=by trivial
theorem z2g:S! [cv!,ai!,no!] dg! z1R:=by trivial
theorem z8q:S! dg! dg! z1I:=by trivial
theorem zal:S! dg! dg! z3D:=by trivial
theorem zg4:S! dg! dg! z8P:=by trivial
theorem z3G:S! [cv!,ai!,cu!,ia!] dg! z9a:=by trivial
theorem z4G:S! ["_law_way",eh!,d0!,pH!] ["_law_way",eh!,d0!] z4t:=by trivial
theorem z3d:S! [mf!,qQ!,dI!,bL!,fW!,ox!,mi!,ew!,"_law_bad"] [mf!] z8F:=by trivial
end
section
variable {P:Program}{w:World}{K:W.Frag}{mg:Str->aL!}{base:Heap}[T:Txt P w K mg]
local macro_rules | `(tactic| trivial)=>`(tactic| first | exact (λ_ _ _ _ _ _ us hl=>match us,hl with | [],_=>rfl) | exact (λ_ _ _ _ _ _ us hl=>match us,hl with | [_],_=>rfl) | exact (λ_ _ _ _ _ _ us hl=>match us,hl with | [_,_],_=>rfl) | exact (λ_ _ _ _ _ _ us hl=>match us,hl with | [_,_,_],_=>rfl))
instance zmn:af! "is_whole" 1 Pg.vL:= gg! 0 zdK (fE! (z5E (g1! (by decide) zc9 (by rfl) (by rfl) T.f7 O!) (z7b (zpX (g1! (by decide) z7l (by rfl) (by rfl) T.f5 O!))))) (by trivial)
instance zmf:af! "has_size" 1 Pg.xa:= gg! 1 zdZ (fE! (z5E (g1! (by decide) zS (by rfl) (by rfl) ns! O!) (z7b (znZ zs8 zs8 (zvm (by rfl) T.f0) (zF wX (by rfl) T.f9 yW bI! (he:=(zu ..))) (zvm (by rfl) T.f1))))) (by trivial)
instance zgh:af! "common_of_two" 1 Pg.vX:= bZ! 2 z0v (have hu:=hr.units;(bC! (z6T _G (d9! H! zq) (zp (zre 0 1 hc z0v.nd (aN H! (aB (zD zdx O! H!) zh))))) O!)) (by trivial)
instance zmA:af! "together" 1 Pg.wd:= bZ! 3 zdm (fE! (zF (zqS (by exact hc)) (by rfl) T.f16 zlR (co! (aQ! mV! iW! (by exact hc) (mN! (by rfl) (cR! 0 1)) (xN 0 1 (by exact hc) zuz) (xH 0 1 (by decide) (by rfl) (by rfl)) yc (zD vh O! H!))) (he:=(zG ..)))) (by trivial)
instance ziB:af! "like_places" 1 Pg.xV:= bZ! 4 z26 (have hu:=hr.units;(bC! (zX 1 z26.nd (z7r (by exact hc) (by rfl) T.f10 (by rfl) rL! bI!)) (yk yO (by rfl) T.f17 zS (co! (aQ! [lA!,cu!] cb! (by exact hc) (wq H!) (zL (i:=1) zte (by rfl) (by first | exact a6! | exact bh!)) (zH 1 (by rfl)) yc (yk yO (by rfl) T.f17 zS (co! (aQ! [cu!,lz!] cb! (by exact hc) ja! (zL (i:=1) zto (by rfl) (by first | exact a6! | exact bh!)) (zH 1 (by rfl)) yc (zrF (zZ eo! O! H!) zq zq))) (he:=(zG ..))))) (he:=(zG ..))))) (by trivial)
instance zjn:af! "columns_of" 1 Pg.yZ:= bZ! 5 z9S (fE! (yk yO (by rfl) T.f17 zS (co! (aQ! [eu!,"at"] (ad! 0) (by exact hc) (hq! (by rfl) (cp! (zF wX (by rfl) T.f9 yW bI! (he:=(zu ..))))) (zL (i:=1) ztO (by rfl) (by first | exact a6! | exact bh!)) (zH 1 (by rfl)) yc (yk yO (by rfl) T.f17 zS (co! (aQ! ["at",cu!] cb! (by exact hc) ja! (zL (i:=1) ztb (by rfl) (by first | exact a6! | exact bh!)) (zH 1 (by rfl)) yc (e3! O!))) (he:=(zG ..))))) (he:=(zG ..)))) (by trivial)
instance zmT:af! "without" 1 Pg.xW:= bZ! 6 z96 (bC! (zX 3 z96.nd (bw! (yN O! xF (xB H!)) (yN O! (xB (jN! H!)) xF))) (yk yO (by rfl) T.f17 zS (co! (aQ! [qM!,cu!] (ad! 2) (by exact hc) (wq bU!) (zL (i:=1) ztq (by rfl) (by first | exact a6! | exact bh!)) (zH 1 (by rfl)) yc (bw! (yN H! xF (xB O!)) (yN H! (xB (jN! O!)) xF)))) (he:=(zG ..)))) (by trivial)
instance zo5:af! "sign_at" 1 Pg.wG:= gg! 7 zfB (have hu:=hr.units;(fE! (zrF (zZ eo! (zD zdx (bw! O! H!) zq) zq) zq kr!))) (by trivial)
instance zam:af! "greatest_and_others" 1 Pg.yb:= bZ! 8 uv (bC! (zX 1 uv.nd (zdU O! (zF (z4B (by exact hc)) (by rfl) T.f11 z2R bI! (he:=(zu ..))))) (xy (aN H! (aB (bw! (bw! (yN O! xF (xB H!)) (xy hU!)) (yN O! (xB (jN! H!)) xF)) zh)))) (by trivial)
instance ziN:af! "least_place" 1 Pg.xo:= bZ! 9 z81 (have hu:=hr.units;(fE! (zdU O! (zF (zlG (by exact hc)) (by rfl) T.f12 zid (co! (aQ! [hJ!] [a!] (by exact hc) ja! (zL (i:=0) zrE (by rfl) (by first | exact a6! | exact bh!)) (zH 0 (by rfl)) (wW (d9! O! zq)) O!)) (he:=(zG ..)))))) (by trivial)
instance zoU:af! "all_but" 1 Pg.qp:= bZ! 10 zfN (have hu:=hr.units;(fE! (aQ! [qN!,"at"] cb! (by exact hc) (hq! (by rfl) (cp! (zF wX (by rfl) T.f9 yW bI! (he:=(zu ..))))) (zL (i:=1) ztJ (by rfl) (by first | exact a6! | exact bh!)) (zH 1 (by rfl)) (wW (d9! H! O!)) H!))) (by trivial)
instance zod:af! "is_rule" 1 Pg.vU:= gg! 11 zfy (fE! (z5E (g1! (by decide) zm1 (by rfl) (by rfl) T.f15 O!) (z7b (zok T.T_RULES (by rfl) O!)))) (by trivial)
instance zqe:af! "moved" 1 Pg.z03:= gg! 12 zjY (have hu:=hr.units;(fE! (zrF (zZ eo! O! xY) (bw! (yN H! (xB zq) xF) (yN H! xF (xB zq))) H!))) (by trivial)
instance zgv:af! "_law_cell_at" 1 Pg.ve:= gg! 13 z6H (bC! (iq! (zZ zui H! (zF wX (by rfl) T.f9 yW bI! (he:=(zu ..)))) (xD O! H!)) zq) (by trivial)
instance zmr:af! "_law_pot" 1 Pg.kK:= bZ! 14 uD (bR! (iq! (zZ zue O! (zD zfS zq zq)) (z8t (aB (zD z8l O! (zD zfS zq zq)) zh))) (zX 1 uD.nd zq) (bC! (z0I _G hc (hq! (by rfl) hU!) (qM 2 uD.nd) (bR! (zX 3 uD.nd (zD zdx (zD vh (jN! (bw! (zD zdx O! zq) (zD vh zq az!))) zq) zq)) (zX 3 uD.nd (zD zdx (jN! (bw! (zD vh bU! bU!) (zD vh zq az!))) zq)) (zp (zX 1 uD.nd (bw! (zD vh H! zq) bU!))))) (z8t b2!))) (by trivial)
instance zjC:af! "_law_take" 1 pJ!:= gg! 15 z4D (zi (zX 2 z4D.nd (zD zdx (xD O! zq) H!)) (bC! (z1i (zD zcb (xD O! zq) H!) O! zq) az!)) (by trivial)
instance zjg:af! "_law_rules" 1 Pg.jH:= gg! 16 zaj (fE! (wY (kZ! (kZ! zh)))) (by trivial)
instance zkI:af! "_law_step" 1 Pg.z1W:= (bZ! 17 zY (have hu:=hr.units;(zi (k3! 2 (zF wX (by rfl) T.f9 yW b2! (he:=(zu ..)))) (bR! (k3! 3 (zF zjF (by rfl) T.f14 zaY (co! (aQ! [ev!,cw!] iW! (by exact hc) (zcw (by rfl) T.f6 b2!) (xN 0 1 (by exact hc) zvo) (xH 0 1 (by decide) (by rfl) (by rfl)) (wW (zZ zp5 H! zq)) (xy (cR! 1 0)))) (he:=(zG ..)))) (k3! 4 (xD (aQ! [bL!,ev!] cb! (by exact hc) (hq! (by rfl) (cx! 2)) (zL (i:=1) zvF (by rfl) (by first | exact a6! | exact bh!)) (zH 1 (by rfl)) (wW (zZ eo! (xD O! H!) (zF (z4B (by exact hc)) (by rfl) T.f11 z2R bI! (he:=(zu ..))))) H!) zq)) (bR! (k3! 5 (zqL (by decide) (xD (xD bU! zq) zq) zq O!)) (hA! (zZ eo! O! xY) (k3! 5 (xD (aQ! [np!,cw!,ev!] (dw! 4) (by exact hc) (wq bU!) (xN 1 2 (by exact hc) zvf) (xH 1 2 (by decide) (by rfl) (by rfl)) (wW (d9! az! O!)) az!) zq))) (bR! (kY (zZ eo! O! xY) (zi (k3! 6 (zF (z4B (by exact hc)) (by rfl) T.f11 z2R (co! (aQ! [np!,cw!,ev!] (dw! 4) (by exact hc) (wq bU!) (xN 1 2 (by exact hc) zvf) (xH 1 2 (by decide) (by rfl) (by rfl)) (wW (d9! az! O!)) H!)) (he:=(zG ..)))) (zp (k3! 5 (xD (aQ! [qT!,np!,bL!,ev!] (fl! 6 4 1) (by exact hc) (hq! (by rfl) (cx! 2)) (zL (i:=3) zw1 (by rfl) (by first | exact a6! | exact bh!)) (zH 3 (by rfl)) (wW (RW.rt (w_and (zZ eo! (hy! bU!) O!) (zhA (d9! bU! H!))))) bU!) zq)))) yy) (zdf 7 [or!,ev!] (ad! 5) rM! hc (hq! (by rfl) (cx! 2)) (fx! (zL (i:=1) zsc (by rfl) (by first | exact a6! | exact bh!))) (zH 1 (by rfl)) (fx! (wW (d9! H! O!))) (fx! H!)) (bR! (hA! (zZ zvc O! (xy (kZ! zh))) (k3! 7 (wY (cx! 4)))) (k3! 8 (zD zpB (z8t hU!) az!)) (bR! (z0I _G hc (wq (zc 7)) (qM 9 rM!) (zp (hA! (zZ zp5 (e3! (zc 5)) zq) (z1i (zD zcb (e3! (zc 9)) (e3! (zc 5))) (zc 8) (zc 9))))) (zdf 10 [nq!,bL!,or!,ev!,cw!] [b! 8,b! 1,b! 5,a!,a!] rM! hc (zcw (by rfl) T.f6 b2!) (fx! (xN 3 4 (by exact hc) zuN)) (xH 3 4 (by decide) (by rfl) (by rfl)) (fx! yc) (fx! (zD z8l (zc 4) (zD vh (xD O! bU!) (e3! az!))))) (bR! (k3! 11 (z8t zh)) (z0I _G hc (hq! (by rfl) (cx! 2)) (qM 9 rM!) (zi (zoo 12 [ev!,"_law_column"] (ad! 9) rM! hc (hq! (by rfl) (cx! 2)) (fx! (zL (i:=1) zu8 (by rfl) (by first | exact a6! | exact bh!))) (zH 1 (by rfl)) (fx! yc) (fx! (yk znE (by rfl) T.f7 zc9 (aM (qE eo! O! H!) zh) (he:=(z5L ..))))) (bR! (z1i (bw! (xD (zc 12) (zc 5)) (xD (zc 8) (zc 9))) (zc 12) (zc 5)) (hA! (zZ eo! O! xY) (k3! 12 (bw! (yN (zc 12) (xB zq) xF) (yN (zc 12) xF (xB zq))))) (zp (vn (z0n (zc 11) (yk yO (by rfl) T.f17 zS (cx! 12) (he:=(zu ..))))))))) (bC! (hA! (zZ eo! O! xY) (k3! 10 (bw! (yN (zc 10) (xB zq) xF) (yN (zc 10) xF (xB zq))))) (xy (aQ (yk yO (by rfl) T.f17 zS (cx! 10) (he:=(zu ..))) (cp! (yk yO (by rfl) T.f17 zS (cx! 11) (he:=(zu ..))))))))))))))) (by trivial)).tidy
instance zjq:af! "_law_ended" 1 Pg.xG:= bZ! 18 z9C (have hu:=hr.units;(fE! (qE eo! (zF wX (by rfl) T.f9 yW (co! (aQ! [cw!] [a!] (by exact hc) ja! (zL (i:=0) zvd (by rfl) (by first | exact a6! | exact bh!)) (zH 0 (by rfl)) (wW (zZ zp5 O! zq)) O!)) (he:=(zG ..))) zq))) (by trivial)
instance zjk:af! "_law_plain" 1 Pg.xE:= bZ! 19 zag (have hu:=hr.units;(fE! (yk yO (by rfl) T.f17 zS (co! (aQ! [fV!,gm!] (ad! 0) (by exact hc) (hq! (by rfl) bI!) (zL (i:=1) zv2 (by rfl) (by first | exact a6! | exact bh!)) (zH 1 (by rfl)) yc (yk yO (by rfl) T.f17 zS (co! (aQ! [gm!,"_law_column"] cb! (by exact hc) (hq! (by rfl) bI!) (zL (i:=1) zvY (by rfl) (by first | exact a6! | exact bh!)) (zH 1 (by rfl)) yc (yk znE (by rfl) T.f7 zc9 (aM (qE eo! O! H!) zh) (he:=(z5L ..))))) (he:=(zG ..))))) (he:=(zG ..))))) (by trivial)
instance zm7:af! "_law_led" 1 Pg.z8N:= (bZ! 20 uE (zi (zX 2 uE.nd (z8t zh)) (bC! (z0I _G hc ja! (qM 3 uE.nd) (bR! (zX 4 uE.nd zq) (z0I _G hc (mN! (by rfl) (cR! 3 1)) (z2T 5 6 hc uE.nd) (zp (zX 4 uE.nd (bw! (zc 4) (zD vh (zc 5) (zc 6)))))) (zp (vn (z0n az! (zc 4)))))) (yk yO (by rfl) T.f17 zS (cx! 2) (he:=(zu ..))))) (by trivial)).tidy
instance zmh:af! "_law_dot" 1 Pg.kL:= bZ! 21 z0p (zi (zX 2 z0p.nd zq) (bC! (z0I _G hc (mN! (by rfl) (cR! 0 1)) (z2T 3 4 hc z0p.nd) (zp (zX 2 z0p.nd (bw! az! (zD vh bU! (zc 4)))))) az!)) (by trivial)
instance zji:af! "_law_whole" 1 Pg.xp:= gg! 22 za7 (fE! (z5E (g1! (by decide) zc9 (by rfl) (by rfl) T.f7 O!) (z7b (zpX (g1! (by decide) z7l (by rfl) (by rfl) T.f5 O!))))) (by trivial)
instance zlZ:af! "_law_gcd" 1 Pg.z1B:= bZ! 23 ja (have hu:=hr.units;(zi (zX 1 ja.nd zq) (bC! (z0I _G hc ja! (qM 2 ja.nd) (zi (zX 3 ja.nd az!) (zp (z6T _G (d9! bU! zq) (zp (zre 1 3 hc ja.nd (jw! 3 (aB (zD zdx H! bU!) zh)))))))) H!))) (by trivial)
instance zgr:HsH P w K mg R! CX0 "_law_kind_of" 1 vk:= zpg (gS! 24) yL (λhr=> have hu:=hr.units;(zi (zX 1 pK! (wY (aQ (h1! (by decide) (by rfl) (by rfl)) (aQ (h1! (by decide) (by rfl) (by rfl)) (aQ (h1! (by decide) (by rfl) (by rfl)) (cp! (h1! (by decide) (by rfl) (by rfl)))))))) (bR! (zX 1 pK! (bw! H! (wY (aQ (h1! (by decide) (by rfl) (by rfl)) (aQ (h1! (by decide) (by rfl) (by rfl)) (aQ (h1! (by decide) (by rfl) (by rfl)) (cp! (h1! (by decide) (by rfl) (by rfl))))))))) (zX 1 pK! (bw! H! (wY (aQ (h1! (by decide) (by rfl) (by rfl)) (aQ (h1! (by decide) (by rfl) (by rfl)) (aQ (h1! (by decide) (by rfl) (by rfl)) (cp! (h1! (by decide) (by rfl) (by rfl))))))))) (bR! (zX 1 pK! (bw! H! (wY (aQ (h1! (by decide) (by rfl) (by rfl)) (aQ (h1! (by decide) (by rfl) (by rfl)) (aQ (h1! (by decide) (by rfl) (by rfl)) (cp! (h1! (by decide) (by rfl) (by rfl))))))))) (zX 1 pK! (bw! H! (wY (cp! (h1! (by decide) (by rfl) (by rfl)))))) (bR! (iq! (kX! (d9! (zjt H! z64) zq) (z5u (er! (zsh T.FM (by rfl) T.f8 (by rfl) T.f2 O!)))) xY) (zX 2 pK! (wY (aK xY (kZ! (kZ! (kZ! (kZ! zh))))))) (bC! (zX 2 pK! (bw! az! (wY (kZ! (kZ! (kZ! (kZ! zh))))))) (hy! (zkM H! z64)))))))) (by trivial)
instance zjl:af! "are_wholes" 2 Pg.zQ:= bZ! 25 za3 (have hu:=hr.units;(bC! (iq! (kX! (er! (g1! (by decide) zS (by rfl) (by rfl) ns! O!)) (z5u (d9! (zF wX (by rfl) T.f9 yW bI! (he:=(zu ..))) H!))) z64) (zF (zko (by exact hc)) (by rfl) T.f4 zec (co! (aQ! ["part"] [a!] (by exact hc) ja! (zL (i:=0) zs2 (by rfl) (by first | exact a6! | exact bh!)) (zH 0 (by rfl)) yc hs!)) (he:=(zG ..))))) (by trivial)
instance zhn:af! "lines_times" 2 Pg.xR:= bZ! 26 z8u (fE! (yk yO (by rfl) T.f17 zS (co! (aQ! [kH!,cu!] cb! (by exact hc) ja! (zL (i:=1) zuK (by rfl) (by first | exact a6! | exact bh!)) (zH 1 (by rfl)) yc (d6! 1 0))) (he:=(zG ..)))) (by trivial)
theorem uW(k:Nat) (Hr:af! "number_of" (k+1) (Pg.yM k)):af! "number_of" (k+1+1) (Pg.yM (k+1)):= bZ! 27 zcO (have hu:=hr.units;(bC! (iq! (zZ eo! (zF wX (by rfl) T.f9 yW bI! (he:=(zu ..))) zq) (xD (xD O! zq) zq)) (zF (zqS (by exact hc)) (by rfl) T.f16 zlR (co! (aQ! [jr!,lz!,hJ!] (dw! 0) (by exact hc) (zcw (by rfl) T.f6 (aS (xD O! zq) zh)) (xN 1 2 (by exact hc) zt0) (xH 1 2 (by decide) (by rfl) (by rfl)) yc (zD vh (zD vh (j3! (d3! b2!)) az!) (r_k hr (cp! (ii! 0 (d3! b2!))) (he:=(xx ..)))))) (he:=(zG ..))))) (by trivial)
instance zkd:af! "number_of" 5 Pg.xJ:= uW 3 (uW 2 (uW 1 (uW 0 (zqm (ps:=[jr!]) (gS! 27) (by trivial) 1))))
instance zn3:af! m2! 2 Pg.jh:= bZ! 28 z8U (bC! (z9x hs! (z2T 1 2 hc z8U.nd)) (xy (aQ (zdU az! (zF (z4B (by exact hc)) (by rfl) T.f11 z2R (cx! 2) (he:=(zu ..)))) (aL (wY b2!) zh)))) (by trivial)
instance zlx:af! m3! 2 Pg.uA:= bZ! 29 z7g (bC! (z9x hs! (z2T 1 2 hc z7g.nd)) (xy (aQ (ii! 2 zh) (aL (wY b2!) zh)))) (by trivial)
instance zp4:af! m4! 2 Pg.z0h:= gg! 30 zbB (bC! (zX 1 zbB.nd hs!) (xy (aN H! (cp! (d6! 0 1))))) (by trivial)
instance znn:af! m5! 2 Pg.jm:= gg! 31 zg3 (have hu:=hr.units;(bC! (iq! (zZ eo! (xD O! zq) zq) (xy (d3! (aL (wY zh) zh)))) (xy (d3! (cp! (i6! 0)))))) (by trivial)
instance zjo:f0! P w K mg dB! "want_rule" 2 Pg.uK:= mP! (gS! 32) z4Z (zp (hA! (er! (oW! zbK bI!)) (z9u T.E_NoRule z5R hc (by rfl)))) (by trivial)
instance zl5:af! "want_rule" 2 Pg.uI:= gg! 32 z4Z (zp (hA! (er! hs!) z6o)) (by trivial)
instance zlp:af! "_law_lot" 2 Pg.z1C:= (bZ! 33 wA (have hu:=hr.units;(bR! (zX 1 pL! (bw! zq (i6! 0))) (zX 2 pL! (xD (wY (d3! (d3! (aB (zD zfS zq zq) (aB (zD zfS zq zq) (d3! hU!)))))) (i6! 0))) (bR! (zX 3 pL! (i6! 0)) (zX 4 pL! (z8t zh)) (bR! (z0I _G hc (hq! (by rfl) b2!) (qM 5 pL!) (zi (zX 6 pL! (jN! (d6! 0 2))) (zp (vn (z0n (zc 4) (zD vh (zc 6) (yk znE (by rfl) T.f7 zc9 (aM (qE zue (i6! 0) bU!) zh) (he:=(z5L ..))))))))) (hA! (zZ eo! (zF (z4B (by exact hc)) (by rfl) T.f11 z2R (cx! 4) (he:=(zu ..))) zq) (z1i (bw! zq (d6! 0 2)) (zc 4) (d6! 0 1))) (bR! (zX 7 pL! (bw! zq (i6! 0))) (hA! (zZ eo! (i6! 0) zq) (z1i (xD (zc 4) (d6! 0 1)) (zc 4) (d6! 0 1))) (bC! (hA! (zZ eo! (zF (z4B (by exact hc)) (by rfl) T.f11 z2R (cx! 4) (he:=(zu ..))) zq) (z1i zq (zc 4) zq)) (yk yO (by rfl) T.f17 zS (co! (aQ! [oq!,cw!] (ad! 7) (by exact hc) (wq (zc 4)) (zL (i:=1) zsM (by rfl) (by first | exact a6! | exact bh!)) (zH 1 (by rfl)) yc (zD vh H! O!))) (he:=(zG ..))))))))) (by trivial)).tidy
instance zmb:af! "_law_run" 2 Pg.z0k:= bZ! 34 z04 (bR! (zX 2 z04.nd (z8t b2!)) (zX 3 z04.nd (z8t zh)) (bC! (z6T _G (er! (r_k hr (aS (hy! kr!) zh) (he:=(uZ ..)))) (bR! (z9x (ii! 0 (aS (hy! kr!) zh)) (z2T 4 5 hc z04.nd)) (vn (z0n az! (zc 4))) (zp (vn (z0n bU! (zc 5)))))) (xy (cR! 2 3)))) (by trivial)
instance zgn:af! "_law_product" 2 Pg.jY:= bZ! 35 jj (zi (zX 2 jj.nd (zF wX (by rfl) T.f9 yW bI! (he:=(zu ..)))) (bC! (zX 3 jj.nd (aQ! [eh!,d0!,eP!] (fm! 0 1) (by exact hc) (hq! (by rfl) (cx! 2)) (zL (i:=2) zs6 (by rfl) (by first | exact a6! | exact bh!)) (zH 2 (by rfl)) yc (ii! 0 (co! (aQ! [eP!,gm!] (ad! 2) (by exact hc) (wq H!) (zL (i:=1) zpP (by rfl) (by first | exact a6! | exact bh!)) (zH 1 (by rfl)) yc (e3! O!)))))) (yk yO (by rfl) T.f17 zS (co! (aQ! [qS!,eP!] (ad! 3) (by exact hc) (hq! (by rfl) (cx! 2)) (zL (i:=1) zuP (by rfl) (by first | exact a6! | exact bh!)) (zH 1 (by rfl)) yc (yk yO (by rfl) T.f17 zS (co! (aQ! [eP!,"_law_side"] cb! (by exact hc) ja! (zL (i:=1) zud (by rfl) (by first | exact a6! | exact bh!)) (zH 1 (by rfl)) yc (e3! O!))) (he:=(zG ..))))) (he:=(zG ..))))) (by trivial)
instance zjU:af! "_law_back" 2 jp:= (bZ! 36 yw (have hu:=hr.units;(zi (zX 1 kK! (zF wX (by rfl) T.f9 yW bI! (he:=(zu ..)))) (bR! (zX 2 kK! (zfl [gm!,lC!] iW! (by exact hc) (mN! (by rfl) (aN O! (cp! (j3! b2!)))) (fx! (xN 0 1 (by exact hc) zu4)) (xH 0 1 (by decide) (by rfl) (by rfl)) (fx! yc) (fx! (bw! (yk zbq (by rfl) T.f10 z0W bI! (he:=(zu ..))) (yk zbq (by rfl) T.f10 z0W b2! (he:=(zu ..))))))) (z0I _G hc (hq! (by rfl) b2!) (qM 3 kK!) (zp (z6T _G (d9! (aQ! [eP!,gm!] (ad! 3) (by exact hc) (wq (yN az! (xB (jN! bU!)) xF)) (zL (i:=1) zpP (by rfl) (by first | exact a6! | exact bh!)) (zH 1 (by rfl)) (wW (d9! (e3! O!) zq)) H!) (wY zh)) (zi (zdf 4 [eP!,nr!,cw!] (fm! 3 2) kK! hc (zeF (by rfl) rL! (cR! 3 1)) (fx! (zL (i:=2) zng (by rfl) (by first | exact a6! | exact bh!))) (zH 2 (by rfl)) (fx! (wW (d9! (xD (e3! az!) O!) zq))) (fx! az!)) (bR! (zX 5 kK! (xD (xD (zF zoD (by rfl) T.f14 zaY (co! (aQ! [eP!,nr!,cw!] (fm! 3 2) (by exact hc) (wq (zc 4)) (zL (i:=2) zng (by rfl) (by first | exact a6! | exact bh!)) (zH 2 (by rfl)) yc (xy (aQ (zF zuD (by rfl) T.f3 zpp (aS (xD (e3! az!) O!) zh) (he:=(uZ ..))) (cx! 2))))) (he:=(zG ..))) zq) zq)) (zX 6 kK! (hy! (zc 5))) (bR! (z1i (hy! bU!) az! (zc 5)) (z1i (zc 6) az! bU!) (zp (z0I _G hc (zeF (by rfl) rL! (aB (jN! bU!) b2!)) (qM 7 kK!) (zi (zX 8 kK! (zD zoH (xD (hy! (zc 7)) bU!) (xD (zc 6) bU!))) (zp (z1i (aQ! [mh!,qR!,lC!] (dw! 8) (by exact hc) (mN! (by rfl) (jw! 6 (aS (hy! (zc 7)) zh))) (xN 1 2 (by exact hc) zqT) (xH 1 2 (by decide) (by rfl) (by rfl)) yc (zD z8l az! (zD ziI O! H!))) az! (zc 7)))))))))))) (bC! (z0I _G hc (zqg (by rfl) rL! (aB (zD z8l H! zq) (aU kr! (aU kr! zh)))) (qM 3 kK!) (zi (z1i (aQ! [eP!,nr!,cw!] (fm! 3 2) (by exact hc) (wq (hy! bU!)) (zL (i:=2) zng (by rfl) (by first | exact a6! | exact bh!)) (zH 2 (by rfl)) yc (zD ziI az! (xD (e3! O!) O!))) az! bU!) (zp (z0I _G hc (hq! (by rfl) (cx! 3)) (qM 7 kK!) (bR! (zX 6 kK! (hy! bU!)) (zX 8 kK! (xD (hy! (zc 7)) bU!)) (zp (z1i (aQ! [mh!,qR!,lC!] (dw! 8) (by exact hc) (mN! (by rfl) (jw! 6 (aS (hy! (zc 7)) zh))) (xN 1 2 (by exact hc) zqT) (xH 1 2 (by decide) (by rfl) (by rfl)) yc (zD z8l az! (zD ziI O! H!))) az! (zc 7)))))))) (yk yO (by rfl) T.f17 zS (co! (aQ! [fV!,gm!] cb! (by exact hc) (wq az!) (zL (i:=1) zv2 (by rfl) (by first | exact a6! | exact bh!)) (zH 1 (by rfl)) yc (yk yO (by rfl) T.f17 zS (aS (yN H! (xB O!) xF) zh) (he:=(uZ ..))))) (he:=(zG ..))))))) (by trivial)).tidy
instance zf3:af! "_law_are_whole" 2 pI!:= bZ! 37 z3V (have hu:=hr.units;(fE! (z5E (g1! (by decide) zS (by rfl) (by rfl) ns! O!) (z5E (qE eo! (zF wX (by rfl) T.f9 yW bI! (he:=(zu ..))) H!) (z7b (zF (zko (by exact hc)) (by rfl) T.f4 zec (co! (aQ! [eh!] [a!] (by exact hc) ja! (zL (i:=0) zsG (by rfl) (by first | exact a6! | exact bh!)) (zH 0 (by rfl)) yc hs!)) (he:=(zG ..)))))))) (by trivial)
instance zgp:af! "_law_no_rule" 2 Pg.xr:= gg! 38 z18 (bC! (zX 2 z18.nd (wY (aQ (zmV H!) (aB (zD zly H! xY) (aS (zjQ H! (xB zq)) (aB (zD zly H! xY) (aK xY (aK ziE (d3! (aT (xy b2!) (aL (wY b2!) (aK z64 (jB zpk zh (by rfl)))))))))))))) (hy! (i6! 0))) (by trivial)
instance zi5:af! "_law_is_lot" 2 Pg.yJ:= bZ! 39 z1O (zi (iq! (kX! (er! (g1! (by decide) zS (by rfl) (by rfl) ns! O!)) (z5u (zZ znM (zF wX (by rfl) T.f9 yW bI! (he:=(zu ..))) (xy (d3! (d3! hU!)))))) z64) (bC! (z0I _G hc ja! (qM 1 z1O.nd) (zp (iq! (kX! (er! (j3! b2!)) (z5u (zZ zui H! zq))) z64))) (qE zp5 (zF (z4B (by exact hc)) (by rfl) T.f11 z2R bI! (he:=(zu ..))) zq))) (by trivial)
instance zme:af! "_law_odd" 2 Pg.kD:= gg! 40 z6K (bC! (by refine zX (i:=1) (hN:=?_) (he:=?_) (hi:=?_) (hx:=?_) (hs:=?_) (hf:=?_);exact z6K.nd;exact (wY (aK ziE (aK z64 (aK z64 (aU kr! (d3! (d3! (aB (zD zfS zq zq) (kZ! (aT (xy zh) (aT (xy (d3! hU!)) (aT (xy hU!) (aL (wY (d3! hU!)) (jB zpk zh (by rfl)))))))))))))));rfl;(first | exact a6! | exact bh!);rfl;(first | exact c4! | exact T! rfl | assumption)) (xD (bw! H! (wY (aT (xy (aT (xy (d3! hU!)) (aT (xy (d3! hU!)) zh))) (aT (xy (aK z64 hU!)) zh)))) (i6! 0))) (by trivial)
theorem vf(k:Nat) (Hr:af! "_law_same" (k+1) (Pg.ya k)):af! "_law_same" (k+1+1) (Pg.ya (k+1)):= bZ! 41 zcU (have hu:=hr.units;(zi (kY (vM (ztp (by decide) (by decide) z0W zS (by rfl) T.f8 (by rfl) T.f10 (by rfl) ns! H!)) (bC! (iq! (kX! (d9! (g1! (by decide) z0W (by rfl) (by rfl) T.f10 H!) (g1! (by decide) z0W (by rfl) (by rfl) T.f10 O!)) (z5u (d9! (g1! (by decide) zS (by rfl) (by rfl) ns! H!) (g1! (by decide) zS (by rfl) (by rfl) ns! O!)))) z64) (z5E (qE eo! (zF wX (by rfl) T.f9 yW bI! (he:=(zu ..))) (zF wX (by rfl) T.f9 yW b2! (he:=(zu ..)))) (z7b (zF (zko (by exact hc)) (by rfl) T.f4 zec (co! (aQ! [eh!,d0!] iW! (by exact hc) (mN! (by rfl) (cR! 0 1)) (xN 0 1 (by exact hc) zuG) (xH 0 1 (by decide) (by rfl) (by rfl)) yc (d6! 0 1))) (he:=(zG ..)))))) yy) (bC! (iq! (kX! (zZ zvx H! ziE) (zcY (vM (g1! (by decide) z7l (by rfl) (by rfl) T.f5 H!)) (z5u (vM (g1! (by decide) zm1 (by rfl) (by rfl) T.f15 H!))))) (z5E (qE eo! O! H!) (z7b (qE eo! (g1! (by decide) z7l (by rfl) (by rfl) T.f5 O!) (g1! (by decide) z7l (by rfl) (by rfl) T.f5 H!))))) (z5E hs! (z7b (qE eo! O! H!)))))) (by trivial)
instance zkg:af! "_law_same" 6 Pg.uB:= vf 4 (vf 3 (vf 2 (vf 1 (vf 0 (zqm (ps:=[hK!,mi!]) (gS! 41) (by trivial) 1)))))
instance zoX:af! "is_lot" 3 Pg.yA:= bZ! 42 zgX (bC! (iq! (kX! (er! hs!) (z5u (er! (ii! 0 (cp! (zF wX (by rfl) T.f9 yW bI! (he:=(zu ..)))))))) z64) (z5E (qE zue (zF (zlG (by exact hc)) (by rfl) T.f12 zid bI! (he:=(zu ..))) zq) (z7b (qE zp5 (zF (z4B (by exact hc)) (by rfl) T.f11 z2R bI! (he:=(zu ..))) zq)))) (by trivial)
instance zmy:af! "is_table" 3 Pg.uy:= bZ! 43 zdA (bC! (iq! (er! hs!) z64) (zF (zko (by exact hc)) (by rfl) T.f4 zec (co! (aQ! [iK!,cu!] (ad! 0) (by exact hc) ja! (zL (i:=1) ztu (by rfl) (by first | exact a6! | exact bh!)) (zH 1 (by rfl)) yc (ii! 1 (cp! (zF wX (by rfl) T.f9 yW bI! (he:=(zu ..))))))) (he:=(zG ..)))) (by trivial)
instance zlm:af! "division" 3 Pg.vK:= bZ! 44 z2w (zi (zX 2 z2w.nd (zsz T.T_RULES (by rfl) O! (λ_ _=>rfl))) (bC! (z9x (zoj (n:=2) 2 (kP (q9! (hr.has m2!) (by decide)) (kP (q9! (hr.has m3!) (by decide)) (kP (q9! (hr.has m4!) (by decide)) (kP (q9! (hr.has m5!) (by decide)) zeh)))) (hr.mono (by decide)) zkA b2! (he:=(zu ..))) (z2T 3 4 hc z2w.nd)) (xy (jw! 3 (co! (aQ! ["divided",ai!,hh!,"at"] (fl! 4 1 3) (by exact hc) (hq! (by rfl) (cp! (zF wX (by rfl) T.f9 yW b2! (he:=(zu ..))))) (zL (i:=3) zuR (by rfl) (by first | exact a6! | exact bh!)) (zH 3 (by rfl)) yc (zrF (zZ zvc bU! O!) (zD zcb (e3! bU!) (e3! az!)) zq))))))) (by trivial)
instance zmL:af! "come_to" 3 Pg.ud:= gg! 45 zfJ (have hu:=hr.units;(fE! (z5E (ii! 1 (cp! (zF wX (by rfl) T.f9 yW bI! (he:=(zu ..))))) (z7b (qE eo! (d6! 1 0) az!))))) (by trivial)
instance zjs:af! "_law_lines" 3 qo:= (bZ! 46 xI (have hu:=hr.units;(bR! (z9x (d6! 0 1) (z2T 2 3 hc ra!)) (zX 4 ra! (r_k hr (cp! (zF wX (by rfl) T.f9 yW b2! (he:=(zu ..)))) (he:=(xx ..)))) (bR! (z0I _G hc (wq bU!) (qM 5 ra!) (zp (zX 4 ra! (d6! 4 5)))) (zX 6 ra! (ii! 4 zh)) (bC! (zX 7 ra! (xD (aQ! [ev!,cw!] iW! (by exact hc) (zcw (by rfl) T.f6 (aS (hy! kr!) zh)) (xN 0 1 (by exact hc) zvo) (xH 0 1 (by decide) (by rfl) (by rfl)) (wW (zZ zp5 H! zq)) O!) zq)) (bw! (wY (aS (xD (zc 6) (zc 7)) zh)) (aQ! [eP!,ev!,gm!] (dw! 7) (by exact hc) (zcw (by rfl) T.f6 (cx! 6)) (xN 1 2 (by exact hc) zvu) (xH 1 2 (by decide) (by rfl) (by rfl)) (wW (d9! H! O!)) az!)))))) (by trivial)).tidy
instance zjL:af! "_law_bent" 3 Pg.ux:= gg! 47 vD (bR! (zX 2 vD.nd (ii! 0 (cp! (zF wX (by rfl) T.f9 yW b2! (he:=(zu ..)))))) (zX 3 vD.nd (wY (aB (jN! (e3! az!)) (aB (zD z8l (e3! az!) zq) (aB (zD z8l zq (e3! az!)) (d3! (aK z64 (aK ziE (aK xY (aT (xy hU!) (aB (zD zfS zq zq) (aS (e3! (zD z8l az! zq)) zh)))))))))))) (bR! (zX 3 vD.nd (xD bU! (i6! 0))) (zX 4 vD.nd (wY (aB (bw! (bw! (yN H! xF (xB az!)) (xy (cx! 3))) (yN H! (xB (jN! az!)) xF)) (aB (bw! (bw! (yN H! xF (xB az!)) (xy (cx! 3))) (yN H! (xB (jN! az!)) xF)) (aB (bw! (yN H! xF (xB az!)) (yN H! (xB (jN! az!)) xF)) (cp! (yk zbq (by rfl) T.f10 z0W b2! (he:=(zu ..))))))))) (bC! (zX 4 vD.nd (bw! (zc 4) (wY (aB (bw! (bw! (yN H! xF (xB az!)) (xy hU!)) (yN H! (xB az!) xF)) (aS (zuO H!) (aB (bw! H! H!) (aB (zD zri (xy hU!) (zF wX (by rfl) T.f9 yW b2! (he:=(zu ..)))) (aQ hs! (aT (xy b2!) zh))))))))) (xD (zc 4) (i6! 0))))) (by trivial)
instance zdn:af! "_law_is_showing" 3 ye:= bZ! 48 z32 (have hu:=hr.units;(bR! (iq! (kX! (er! (g1! (by decide) zS (by rfl) (by rfl) ns! H!)) (zcY (d9! (zF wX (by rfl) T.f9 yW b2! (he:=(zu ..))) zq) (zcY (er! (r_k hr (aS (e3! zq) zh) (he:=(uZ ..)))) (z5u (zZ zui (e3! zq) zq))))) z64) (iq! (kX! (er! (r_k hr (aS (e3! zq) (cp! (zF wX (by rfl) T.f9 yW bI! (he:=(zu ..))))) (he:=(uZ ..)))) (z5u (er! (r_k hr (aS (e3! zq) (cp! (zF wX (by rfl) T.f9 yW bI! (he:=(zu ..))))) (he:=(uZ ..)))))) z64) (bC! (iq! (d9! (aQ! [ew!,eh!,d0!] (dw! 1) (by exact hc) (mN! (by rfl) (aS (e3! zq) bI!)) (xN 1 2 (by exact hc) ztZ) (xH 1 2 (by decide) (by rfl) (by rfl)) (wW (d9! (zD vh H! (xD O! zq)) az!)) zq) (wY zh)) z64) (qE eo! (r_k hr (aS (e3! zq) bI!) (he:=(uZ ..))) (e3! zq))))) (by trivial)
instance zku:f0! P w K mg dB! "want_lot" 4 Pg.vE:= mP! (gS! 49) z6n (zp (hA! (er! (oW! zbK bI!)) (z9u T.E_NoLot z5R hc (by rfl)))) (by trivial)
instance zmC:af! "want_lot" 4 Pg.yQ:= gg! 49 z6n (zp (hA! (er! hs!) z6o)) (by trivial)
instance zhL:f0! P w K mg dB! "want_table" 4 Pg.z11:= mP! (gS! 50) z3q (zp (hA! (er! (oW! zbK bI!)) (z9u T.E_NoTable z5R hc (by rfl)))) (by trivial)
instance zjm:af! "want_table" 4 Pg.yP:= gg! 50 z3q (zp (hA! (er! hs!) z6o)) (by trivial)
instance zcA:af! "_law_bent_showing" 4 yr:= bZ! 51 yn (zi (z9x az! (zqh 3 4 5 hc rb!)) (bR! (zX 6 rb! (xD (wY (d3! (aB (zD vh zq bU!) (aB (zD z8l zq bU!) (d3! (aK z64 (aK ziE (aK xY (aT (xy (cx! 3)) (aB (jN! bU!) zh)))))))))) (i6! 0))) (zX 7 rb! (yk yO (by rfl) T.f17 zS (co! (aQ! [cw!] [a!] (by exact hc) (wq (zc 5)) (zL (i:=0) zvd (by rfl) (by first | exact a6! | exact bh!)) (zH 0 (by rfl)) yc (zD vh zq O!))) (he:=(zG ..)))) (bR! (zX 8 rb! (wY (aT (xy (jw! 6 (cR! 4 5))) (aT (xy (jw! 3 (aQ (d6! 0 4) (cx! 5)))) (aT (xy (jw! 3 (jw! 4 (cp! (d6! 0 5))))) zh))))) (zX 8 rb! (bw! (zc 8) (wY (aT (xy (jw! 3 (cR! 5 4))) (aT (xy (d3! (cR! 1 5))) (aT (xy (jw! 3 (cR! 1 5))) (aT (xy (aB (zD vh zq bU!) (cR! 4 7))) zh))))))) (bC! (zX 8 rb! (bw! (zc 8) (wY (aQ (yk zbq (by rfl) T.f10 z0W (cx! 2) (he:=(zu ..))) (aT (xy (jw! 3 (aQ (yk zbq (by rfl) T.f10 z0W (cx! 4) (he:=(zu ..))) (cx! 5)))) (aS (yN az! xF (xB zq)) (aB (bw! az! (xy hU!)) (cp! hs!)))))))) (xD (zc 8) (i6! 0)))))) (by trivial)
instance zol:f0! P w K mg dB! "common" 5 Pg.z62:= mP! (gS! 52) z2O (zi (vn (jK! bI!)) (bR! (ji (zX 1 z2O.nd zq)) (ji (z0I _G hc ja! (qM 2 z2O.nd) (zp (zX 1 z2O.nd (d6! 1 2))))) (zp (ji (zO H!))))) (by trivial)
instance zkw:af! "has_ended" 5 Pg.xQ:= bZ! 53 zcg (have hu:=hr.units;(bC! (vn hs!) (qE eo! (zF wX (by rfl) T.f9 yW (co! (aQ! [hJ!] [a!] (by exact hc) ja! (zL (i:=0) zrE (by rfl) (by first | exact a6! | exact bh!)) (zH 0 (by rfl)) (wW (d9! O! zq)) O!)) (he:=(zG ..))) zq))) (by trivial)
instance zjj:af! "multiplied" 5 Pg.vF:= bZ! 54 zay (have hu:=hr.units;(bR! (vn hs!) (vn (j3! b2!)) (bC! (hA! (d9! (zF wX (by rfl) T.f9 yW bI! (he:=(zu ..))) (zF wX (by rfl) T.f9 yW b2! (he:=(zu ..)))) z6o) (r_k hr (cp! (yk yO (by rfl) T.f17 zS (co! (aQ! ["one",lz!] (ad! 0) (by exact hc) (wq (j3! b2!)) (zL (i:=1) zsX (by rfl) (by first | exact a6! | exact bh!)) (zH 1 (by rfl)) yc (d6! 0 1))) (he:=(zG ..)))) (he:=(xx ..)))))) (by trivial)
instance zjb:f0! P w K mg dB! "one_number" 6 Pg.z14:= qI (gS! 55) zaB (λhr _=> (zi (vn (jK! bI!)) (zp (ji (zO hs!))))) (by trivial)
instance zaS:f0! P w K mg dB! "want_rule_and_lot" 5 Pg.zB:= qI (gS! 56) qH (λhr _=> (zi (vn (jK! bI!)) (zp (vn (jK! b2!))))) (by trivial)
instance zcV:af! "want_rule_and_lot" 5 Pg.yd:= gg! 56 qH (zi (vn hs!) (zp (vn (j3! b2!)))) (by trivial)
instance zh8:f0! P w K mg dB! m6! 5 Pg.wI:= mP! (gS! 57) z2H (have hu:=hr.units;(zi (vn (jK! bI!)) (bR! (ji (iq! (kX! (er! (g1! (by decide) zS (by rfl) (by rfl) ns! H!)) (z5u (d9! (zF wX (by rfl) T.f9 yW b2! (he:=(zu ..))) zq))) z64)) (z9x H! (zqh 2 3 4 hc z2H.nd)) (bC! (hA! (kX! (er! (oW! zbK (cx! 2))) (zcY (zZ zs8 az! zq) (z5u (er! (oW! zbK (jw! 3 (cp! (zF wX (by rfl) T.f9 yW bI! (he:=(zu ..)))))))))) (ji (zO z64))) (z5E (qE eo! (yk yO (by rfl) T.f17 zS (co! (aQ! [ia!,q8!] (ad! 2) (by exact hc) (wq bU!) (zL (i:=1) zt9 (by rfl) (by first | exact a6! | exact bh!)) (zH 1 (by rfl)) yc (zD vh O! H!))) (he:=(zG ..))) O!) (z7b (oW! zbK (aN O! (cR! 4 2))))))))) (by trivial)
instance zgu:f0! P w K mg dB! "turned_back" 7 Pg.qR:= mP! (gS! 58) jV (have hu:=hr.units;(zi (zX 1 jV.nd (jK! bI!)) (bR! (hA! (RW.rt (w_and (d9! H! zq) (zhA (d9! H! kr!)))) (z9u T.E_NotFair z5R hc (by rfl))) (ji (zX 2 jV.nd (z7r (by exact hc) (by rfl) T.f10 (by rfl) rL! (cp! (zF wX (by rfl) T.f9 yW bI! (he:=(zu ..))))))) (zp (ji (zO (yk yO (by rfl) T.f17 zS (co! (aQ! [lA!,op!,eu!,cu!] (fl! 2 1 0) (by exact hc) (wq az!) (zL (i:=3) zu2 (by rfl) (by first | exact a6! | exact bh!)) (zH 3 (by rfl)) yc (yk yO (by rfl) T.f17 zS (co! (aQ! [op!,cu!,eu!,lz!] (fl! 1 3 2) (by exact hc) ja! (zL (i:=3) ztr (by rfl) (by first | exact a6! | exact bh!)) (zH 3 (by rfl)) yc (zD vh (zD vh O! (d6! 1 3)) (r_k hr (cp! (ii! 2 (cR! 3 1))) (he:=(xx ..)))))) (he:=(zG ..))))) (he:=(zG ..))))))))) (by trivial)
instance zbn:f0! P w K mg dB! "growing_products" 6 Pg.wv:= mP! (gS! 59) vB (bR! (ji (zX 2 vB.nd (z8t (cp! hs!)))) (ji (z0I _G hc (wq H!) (qM 3 vB.nd) (zp (vn (z0n az! (r_k hr (aS (hy! kr!) (cx! 3)) (he:=(uZ ..)))))))) (zp (ji (zO az!)))) (by trivial)
instance zlj:af! "want_step" 6 Pg.wM:= gg! 60 zcv (zi (vn (d6! 0 1)) (zp (hA! (vM (j3! b2!)) z6o))) (by trivial)
instance zrS:af! "step" 7 Pg.M_step:= bZ! 61 zdj (bR! (vn (d6! 0 1)) (z9x (d6! 0 1) (z2T 2 3 hc zdj.nd)) (bC! (zX 4 zdj.nd (yk yO (by rfl) T.f17 zS (co! (aQ! [ai!,hh!,hJ!,q8!] (fd! 1 2 a!) (by exact hc) (mN! (by rfl) (cR! 1 3)) (xN 2 3 (by exact hc) zuo) (xH 2 3 (by decide) (by rfl) (by rfl)) yc (zD z8l az! (zD vh bU! (xD O! H!))))) (he:=(zG ..)))) (d6! 0 4))) (by trivial)
instance zjf:af! "step_table" 7 Pg.vH:= bZ! 62 z37 (zi (vn (d6! 0 1)) (bC! (z9x (d6! 0 1) (z2T 2 3 hc z37.nd)) (yk yO (by rfl) T.f17 zS (co! (aQ! [cv!,hh!,cu!,q8!] (fd! 0 2 a!) (by exact hc) (mN! (by rfl) (aQ (r_k hr (cp! (zF wX (by rfl) T.f9 yW b2! (he:=(zu ..)))) (he:=(xx ..))) (cx! 3))) (xN 2 3 (by exact hc) zts) (xH 2 3 (by decide) (by rfl) (by rfl)) yc (ii! 0 (aB (bw! (bw! (yN az! xF (xB H!)) (xy (aB (bw! (hy! H!) bU!) zh))) (yN az! (xB (jN! H!)) xF)) zh)))) (he:=(zG ..))))) (by trivial)
instance zrP:f0! P w K mg dB! "run" 8 Pg.X_run:= qI (gS! 63) zlu (λhr _=> (zi (vn (jK! (cR! 0 1))) (bR! (ji (zX 2 zlu.nd (z8t b2!))) (ji (z6T _G (er! (r_k hr (aS (hy! kr!) zh) (he:=(uZ ..)))) (zp (vn (z0n az! (ii! 0 (aS (hy! kr!) zh))))))) (zp (ji (zO az!)))))) (by trivial)
instance zjr:f0! P w K mg dB! "tables_of" 9 Pg.xT:= mP! (gS! 64) zb0 (fE! (zfl [cv!,"ahead"] (ad! 0) (by exact hc) (wq (yN (ziK (jK! (cR! 0 1))) xF (xB kr!))) (fx! (zL (i:=1) zuC (by rfl) (by first | exact a6! | exact bh!))) (zH 1 (by rfl)) (fx! yc) (fx! (oW! zbK (cR! 0 1))))) (by trivial)
instance zgq:f0! P w K mg dB! "products_of" 10 Pg.yY:= qI (gS! 65) z2g (λhr _=> (bC! (zX 2 z2g.nd (ziK (jK! (cR! 0 1)))) (z65 hr z1H (aQ (zF wX (by rfl) T.f9 yW b2! (he:=(zu ..))) (cx! 2)) (he:=(xx ..))))) (by trivial)
instance zgm:f0! P w K mg dB! "whole_table" 11 Pg.xn:= qI (gS! 66) z8q (λhr _=> (fE! (xD (ziK (jK! (cR! 0 1))) kr!))) (by trivial)
instance zhd:f0! P w K mg dB! "lines_back" 12 Pg.xi:= qI (gS! 67) zal (λhr _=> (fE! (z65 hr z1H (cp! (jK! (cR! 0 1))) (he:=(xx ..))))) (by trivial)
instance zm9:f0! P w K mg dB! "weights" 13 Pg.qm:= mP! (gS! 68) zg4 (have hu:=hr.units;(fE! (xD (aQ! [ai!,cu!] cb! (by exact hc) (wq (jK! (cR! 0 1))) (zL (i:=1) zs7 (by rfl) (by first | exact a6! | exact bh!)) (zH 1 (by rfl)) (wW (d9! (oW! zbK (cR! 1 0)) zq)) H!) zq))) (by trivial)
instance zlE:f0! P w K mg dB! m7! 14 Pg.uj:= mP! (gS! 69) z3G (bR! (zX 2 z3G.nd (jK! (cR! 0 1))) (zX 3 z3G.nd (jK! b2!)) (zp (ji (zO (xy (jw! 3 (aQ (yk yO (by rfl) T.f17 zS (co! (aQ! [ia!,hJ!] (ad! 3) (by exact hc) (wq H!) (zL (i:=1) zsZ (by rfl) (by first | exact a6! | exact bh!)) (zH 1 (by rfl)) yc (zD zcb H! O!))) (he:=(zG ..))) (cx! 2)))))))) (by trivial)
instance zkq:af! "_law_told" 15 zT:= gg! 70 z4G (zp (ztA rfl rfl rfl T.KS (by rfl) z4G.nd (by rfl) (by rfl) (λpn xe E1 hp=>(fE! (zoS (n:=14) (kP (q9! (hr.hasX m7!) (by decide)) (kP (q9! (hr.hasX m6!) (by decide)) zeh)) (hr.mono (by decide)) hp (xD (wY (jB (zr9 (hr.hasX m7!) (by rfl)) (jB (zr9 (hr.hasX m6!) (by rfl)) zh (zu ..)) (zu ..))) O!) (cR! 1 2) (he:=(zu ..))))) (λe pn=>(fE! (zow (hr.hasH "_law_kind_of") (zu1 (hr.r.h.mono (by decide))) zkA (by rfl) (cx! 3) (he:=(zu ..))))))) (by trivial)
theorem zfq{f:Addr} {fd:FuncData} (F:Fun K "law" "law" z8F f fd):z9Z P w K mg R! CX0 16 f fd [mf!] (zjR ⟨mg,K⟩ zoe):= zpT F z3d rfl λaj A outer s H E hr hc=>by
  have hr:Rm P w K mg R! 15 _:=⟨hr⟩;have hu:=hr.units;refine zi ?_ ?_
  ·refine z0I _G hc (hq! (by rfl) (cp! (zF (zrD (by exact hc)) (by rfl) T.f11 z2R (d3! (cp! (zF (zqA (by exact hc)) (by rfl) T.f12 zid (aQ (zF wX (by rfl) T.f9 yW bI! (he:=(zu ..))) hU!) (he:=(xx ..))))) (he:=(z9h ..))))) (qM 1 oy!) ?_;refine zi ?_ ?_;·exact (zX 2 oy! (r_k hr (cp! (d6! 0 1)) (he:=(xx ..))))
   refine zi ?_ ?_;·exact (zX 3 oy! (ii! 2 zh))
   refine zi ?_ ?_;·exact (zX 4 oy! (xD (zns (hr.has "_law_rules") (hr.mono (by decide)) zkA (by rfl)) (i6! 2)))
   refine zi ?_ ?_;·exact (zX 5 oy! (ii! 3 zh))
   refine zi ?_ ?_;·exact (zX 6 oy! (xy (jw! 5 (aQ (yk yO (by rfl) T.f17 zS (co! (aQ! [ox!,cw!] (ad! 5) (by exact hc) (wq bU!) (zL (i:=1) zw5 (by rfl) (by first | exact a6! | exact bh!)) (zH 1 (by rfl)) yc (zD zcb H! O!))) (he:=(zG ..))) (aS (xD (d6! 4 3) zq) zh)))))
   refine zi ?_ ?_
   ·refine kY (kX! (er! (r_k hr (aQ (j3! (d3! (cR! 4 3))) (cx! 6)) (he:=(xx ..)))) (z5u (er! (r_k hr (aQ (j3! (d3! (cR! 4 3))) (cx! 6)) (he:=(xx ..)))))) ?_ ?_
    ·refine zp ?_;exact (zO z64)
    ·exact yy
   refine zi ?_ ?_
   ·refine z0I _G hc (wq (bw! (wY (cx! 6)) (aQ! [dI!,bL!,mi!,"_law_turn"] (fl! 2 3 6) (by exact hc) (hq! (by rfl) hU!) (zL (i:=3) zvt (by rfl) (by first | exact a6! | exact bh!)) (zH 3 (by rfl)) yc (ii! 0 (cR! 1 2))))) (qM 7 oy!) ?_;refine zp ?_;refine kY (er! (r_k hr (aQ (j3! (d3! (cR! 3 7))) (cp! (d6! 3 7))) (he:=(xx ..)))) ?_ ?_
    ·refine zp ?_;exact (zO z64)
    ·exact yy
   refine zi ?_ ?_;·exact (zX 8 oy! (d6! 2 3))
   refine zi ?_ ?_
   ·refine kY (RW.rt (w_and (er! (ii! 8 zh)) (zhA (d9! (wY (aQ (j3! (d3! (cR! 4 8))) (cp! (j3! (d3! (cR! 8 6)))))) (zD ztS (wY (aK xY zh)) zq))))) ?_ ?_
    ·refine zp ?_;exact (zO z64)
    ·exact yy
   refine zp ?_;refine kY (d9! (j3! (d3! (aQ (d6! 2 4) (aS (xD (wY (cR! 3 8)) (i6! 2)) zh)))) xY) ?_ ?_
   ·refine zp ?_;exact (zO z64)
   ·exact yy
  refine zp ?_;exact (zO z64)
end
end aW
namespace Po
open L2 Dd Pm Pg Pn
theorem zqc:LeM zjw X_run:=mm! (LeS.seq (rk! zfs) (ri! jv! jv! jv!))
theorem zfr:LeM ww wv:=mm! (ri! jv! jv! jv!)
theorem zhl:∀ts:List Tb,dc! (ts.map tD)
 | []=>rfl | T::ts=>by simp only[_p,flC,flN,zhl ts,Bool.and_true];exact z9c T
section
variable {n m:Nat}{r:Rl}{v:h!}{ls:f2!}{d e:D}{c:Str}{s:Sto}
theorem x_run(r:Rl)(h:fo!)(Rn:gf! v)(hm:m<=hM!)(hl:o6!)(s:Sto):X_run [bv!,M!] s=g3! (s++[cS!]):=zqc.ok (zst r h Rn hm hl s)
theorem zkt(h:zB [d,e] s=dQ!):X_run [d,e] s=dQ!:=by
 simp only[X_run,kZ,zhU,st,_i,_k,_v];rw[zi1 (c:=c) (s':=s) (by exact zdD (z5Z (x:=d) (y:=e) p! p! h))]
theorem zjT(r:Rl) (h:fo!) (Rn:gf! v) (hm:m<=hM!) (hl:o6!) (s:Sto):xT [bv!,M!] s=g3! (s++[fj!]):=by
 have key:hL! (d=bv!->X_run [d,e] s=g3! (s++[cS!])->xT [d,e] s=g3! (s++[fj!])):=q5! (by
  have st:zy dg! [d,e]=hv!:=rfl;obtain⟨z,hz⟩:∃z,ls=ls.dropLast++[z]:=⟨ls.getLast Rn.ne,(List.dropLast_concat_getLast Rn.ne).symm⟩;have sl:eSl (z5q (cM! X_run)) zE (yD d5!) hv! s=bA! (ls.dropLast.map rD):=by
   rw[zaK,(show z5q (cM! X_run) hv! s=bA! cS! from by rw[z3F,call2 (x:=d) (y:=e) p! p!,he,zaG])];simp only[Rb,qh,z1e,zh1,qr,dSl,Dd.listOf];have c:=zky (ls.dropLast.map rD) (rD z);rw[show ls.dropLast.map rD++[rD z]=cS! from by rw[show [rD z]=eB! [z] from rfl,<- _cl,<- hz]]at c;rw[c]
  have fW:=zjd h Rn;have ht:ls.dropLast.map (λa=>tD (kA r a))=fj!:=by simp[zN,_L]
  have c:=z7L (s:=s) (mp:=ad! 0) (fg:=yg 1) (fe:=cM! vH) rD (λa=>tD (kA r a)) (λa=>[g!,bu! a]) ls.dropLast (jA sl) (λa _=>by simp) (λa ha=>by
   rw[hd];exact (zcy r (fW a ha).1 (fW a ha).2 hm s)) (by simp[cap];lia) (by rw[ht];exact zhl _);simp only[xT,kZ,z0f,st,_i,_k,_v,jS,yo];rw[c,ht];rfl)
 exact key _ _ rfl (x_run r h Rn hm hl s)
theorem zda(h:zB [d,e] s=dQ!):xT [d,e] s=dQ!:=by
 have st:zy dg! [d,e]=hv!:=rfl;simp only[xT,kZ,z0f,st,_i,_k,_v,jS,yo,zef,uJ,ke,zaK,(show z5q (cM! X_run) hv! s=dQ! from by rw[z3F,z5Z (x:=d) (y:=e) p! p! (zkt h)];rfl),R.bind_ex]
theorem zfx(r:Rl) (h:fo!) (Rn:gf! v) (hm:m<=hM!) (hl:o6!) (s:Sto):yY [bv!,M!] s=g3! (s++[f1! (z47 b0! jA!)]):=by
 have gr:=zfr.ok (zhS r h Rn hm hl s);have key:∀d e t:D,wv [c! n,t] s=g3! (s++[f1! (z47 b0! jA!)])->z5q (cM! xT) (fm! d e) s=i! t->yF [e] s=x! n->yY [d,e] s=g3! (s++[f1! (z47 b0! jA!)]):=λd e t ht h1 h2=>by
  have st:zy [cv!,ai!,no!] [d,e]=fm! d e:=rfl;simp only[yY,kZ,js,st,_i,_k,_v];rw[zn (ρ':=[g!,l!,b! t]) (s':=s) (by rw[qC,zR,h1];rfl),z0H,yo,call2 (by exact h2) (y:=t) (by simp),ht];rfl
 exact key _ _ _ gr (by rw[z3F,call2 (x:=bv!) (y:=M!) p! p!,(zjT r h Rn hm hl s),zaG]) (by simp[yF,zW,h.len])
theorem za2(h:zB [d,e] s=dQ!):yY [d,e] s=dQ!:=by
 have st:zy [cv!,ai!,no!] [d,e]=fm! d e:=rfl;simp only[yY,kZ,js,st,_i,_k,_v]
 rw[zi1 (c:=c) (s':=s) (by rw[qC,zR,(show z5q (cM! xT) (fm! d e) s=dQ! from by rw[z3F,z5Z (x:=d) (y:=e) p! p! (zda h)];rfl)];rfl)]
theorem zoM(r:Rl) (h:fo!) (Rn:gf! v) (hm:m<=hM!) (hl:o6!) (s:Sto):xn [bv!,M!] s=g4! hC!:=by
 obtain⟨pre,hp⟩:=List.getLast?_eq_some_iff.mp (z8R jA! b0!);exact (λd e h1=>by
  have st:zy dg! [d,e]=hv!:=rfl;have ix:=z7G (x:=W! (f1! (z47 b0! jA!))) (d:=tD hC!) (xs:=pre.map tD) (s:=s) (by rw[hp];simp[zW,z0g]);simp only[xn,kZ,jd,st,_i,_k,_v,qA,yo];rw[op2 (by rw[z3F,call2 (x:=d) (y:=e) (by simp) (by simp),h1,zaG]) (y:=c! (-1)) (by simp),ix];rfl:hL! (yY [d,e] s=g3! (s++[f1! (z47 b0! jA!)])->xn [d,e] s=g4! hC!)) _ _ (zfx r h Rn hm hl s)
theorem zg9(h:zB [d,e] s=dQ!):xn [d,e] s=dQ!:=by
 have st:zy dg! [d,e]=hv!:=rfl;simp only[xn,kZ,jd,st,_i,_k,_v,qA,yo,yH,(show z5q (cM! yY) hv! s=dQ! from by rw[z3F,z5Z (x:=d) (y:=e) p! p! (za2 h)];rfl),R.bind_ex]
end
theorem zkJ:jY=wP:=rfl
theorem zeU{n:Nat} (hn:n<=4) (s:Sto):xE [c! n] s=g4! b0!:=by
 exact (hI! (by
  have st:zy [fV!] [d]=[g!]:=rfl;have outer:=comp_map (s:=s) (fi:=ep! 0) (mp:=ad! 0) (fg:=yg 1) (fe:=dj! (ep! 0) cb! 1 (aG! zeb (ej! dEq 0 r!))) (ρ:=[g!]) (λi:Nat=>aK! (j! i)) (λi=>rD (aP! n (λj=>aj! i j 1 0))) (λi=>[g!,e! (j! i)]) iO! (qZ (by lia) (by simp[hd])) (λa _=>by simp) (λi _=>by
    rw[yI ((λi=> comp_map (λj:Nat=>aK! (j! j)) (λj=>aK! (aj! i j 1 0)) (λj=>[e! (ab! i),e! (j! j)]) iO! (qZ (by lia) (by simp[hd])) (λa _=>by simp) (λj _=>by
    rw[yI (x:=.bl (fh! i j)) (by
     rw[yH,vr (d:=c! (ab! i)) rfl,Rb,vr (d:=c! (ab! j)) rfl,Rb,zdv];congr 2;exact decide_eq_decide.mpr (by lia))];by_cases q:i=j<;>simp[q,zeb]) (by simp[cap];lia):∀i:Nat,zv (ep! 0) cb! (yg 1) zU (aG! zeb (ej! dEq 0 r!)) [g!,e! (ab! i)] s=bA! (aP! n (λj=>aK! (aj! i j 1 0)))) i),z25];simp[_ak,_L]) (by simp[cap];lia);rw[(show aP! n (λi=>rD (aP! n (λj=>aj! i j (j! 1) 0)))=eB! b0! from by rw[one,_ak];rfl)]at outer;simp only[xE,Mof,z3b,st,_i,_k,_v,z1J,yo];rw[yI as!];rfl):∀d:D,d=c! (j! n)->xE [d] s=g4! b0!) _ rfl
end Po
namespace Pb
open Pm
noncomputable def z0J(q:Int)(h r:h!):h!:=ot! (λm o=>o-q*m) h r
theorem z5X{q:Int}{h r:h!}(e:h.length=aE!):v! (z0J q h r)=aE!:=by simp[z0J,e]
theorem z3A{q:Int}:∀{h r:List Int},h.length=aE!->∀j:Nat,bd! (z0J q h r) j=cT! j-q*h.getD j 0
 | [],[],_,j=>by simp[z0J] | a::h,b::r,e,0=>by simp[z0J] | a::h,b::r,e,j+1=>by
  have:=z3A (q:=q) (h:=h) (r:=r) (by simpa using e) j;simpa[z0J] using this
theorem z7e(q:Int)(h r:h!)(n:Nat):(z0J q h r).take n=z0J q (h.take n) p2!:=by simp[z0J,List.take_zipWith]
theorem zcm(q:Int)(h r:h!)(n:Nat):(z0J q h r).drop n=z0J q (h.drop n) mK!:=by simp[z0J,List.drop_zipWith]
theorem zf7{q:Int}:∀(c:List Int) {h r:List Int},h.length=aE!->dot c (z0J q h r)=dot c r-q*dot c h
 | [],h,r,_=>by simp[dot] | x::c,[],[],_=>by simp[dot,z0J] | x::c,a::h,b::r,e=>by
  have:=zf7 (q:=q) c (h:=h) (r:=r) (by simpa using e);simp only[dot,z0J,_at,_aD]at this ⊢;rw[this];grind
theorem zd3{q:Int}{h r:h!}(e:h.length=aE!):∀C:Tb,mv C (z0J q h r)=z0J q (mv C h) (mv C r)
 | []=>by simp[mv,z0J] | c::C=>by
  have:=zd3 (q:=q) e C;simp only[mv,z0J,_p,_at]at this ⊢;rw[<- this];have:=zf7 (q:=q) c e;simp only[z0J]at this;rw[this]
theorem zmO{n h k:Nat}{A:Tb}(hn:ba!)(hA:iw!)(hh:h<n)(hk:k<n)(ne:h≠k)(q:Int):eF! (A.set k (z0J q (mS! h) (mS! k)))=eF! A:=by
 rcases hn with rfl | rfl | rfl
 ·obtain⟨a,b,c,d,rfl⟩:=z9t hA;rcases (show h=0\/h=1 by lia) with rfl | rfl<;>rcases (show k=0\/k=1 by lia) with rfl | rfl<;>first | exact gt! ne | (simp[z0J,zd6,d2];grind)
 ·obtain⟨a,b,c,d,e,f,g,i,j,rfl⟩:=zaf hA;rcases (show h=0\/h=1\/h=2 by lia) with rfl | rfl | rfl<;>rcases (show k=0\/k=1\/k=2 by lia) with rfl | rfl | rfl<;>first | exact gt! ne | (simp[z0J,zb7,d3,d2];grind)
 ·obtain⟨a,b,c,d,e,f,g,i,j,k',l,m,n',o,p,q',rfl⟩:=z9V hA;rcases (show h=0\/h=1\/h=2\/h=3 by lia) with rfl | rfl | rfl | rfl<;>rcases (show k=0\/k=1\/k=2\/k=3 by lia) with rfl | rfl | rfl | rfl<;>first | exact gt! ne | (simp[z0J,zcs,d4,d3,d2];grind)
theorem zjW{n f k:Nat}{A:Tb}(hn:ba!)(hA:iw!)(hf:f<n)(hk:k<n):mI! ((A.set f (mS! k)).set k (mS! f))=mI! A:=by
 have key:eF! ((A.set f (mS! k)).set k (mS! f))=eF! A\/eF! ((A.set f (mS! k)).set k (mS! f))=-(eF! A):=by
  rcases hn with rfl | rfl | rfl
  ·obtain⟨a,b,c,d,rfl⟩:=z9t hA;rcases (show f=0\/f=1 by lia) with rfl | rfl<;>rcases (show k=0\/k=1 by lia) with rfl | rfl<;>first | exact c4! | (right;simp[zd6,d2];grind)
  ·obtain⟨a,b,c,d,e,f,g,i,j,rfl⟩:=zaf hA;rename_i f';rcases (show f'=0\/f'=1\/f'=2 by lia) with rfl | rfl | rfl<;>rcases (show k=0\/k=1\/k=2 by lia) with rfl | rfl | rfl<;>first | exact c4! | (right;simp[zb7,d3,d2];grind)
  ·obtain⟨a,b,c,d,e,f,g,i,j,k',l,m,n',o,p,q',rfl⟩:=z9V hA;rename_i f';rcases (show f'=0\/f'=1\/f'=2\/f'=3 by lia) with rfl | rfl | rfl | rfl<;>rcases (show k=0\/k=1\/k=2\/k=3 by lia) with rfl | rfl | rfl | rfl<;>first | exact c4! | (right;simp[zcs,d4,d3,d2];grind)
 rcases key with e | e<;>rw[e];exact Int.natAbs_neg _
theorem qY{a b:Int}(h:bE! (a*b)=1):a.natAbs=1/\b.natAbs=1:=by
 rw[_aA]at h;exact⟨Nat.eq_one_of_mul_eq_one_right h,Nat.eq_one_of_mul_eq_one_left h⟩
theorem zoP{n:Nat}{A:Tb}(hn:ba!)(hA:iw!)(z:∀c k,c<k->k<n->bd! (mS! k) c=0)(h:mI! A=1):∀k,k<n->bE! (bd! (mS! k) k)=1:=by
 rcases hn with rfl | rfl | rfl
 ·obtain⟨a,b,c,d,rfl⟩:=z9t hA;have z1:=z 0 1 (by lia) (by lia);simp at z1;subst z1;rw[zd6,show d2 a b 0 d=a*d by simp[d2]]at h;obtain⟨h1,h2⟩:=qY h;intro k hk;rcases (show k=0\/k=1 by lia) with rfl | rfl<;>simpa
 ·obtain⟨a,b,c,d,e,f,g,i,j,rfl⟩:=zaf hA;have z1:=z 0 1 (by lia) (by lia);have z2:=z 0 2 (by lia) (by lia);have z3:=z 1 2 (by lia) (by lia);simp at z1 z2 z3;subst z1 z2 z3;rw[zb7,show aJ! 0 e f 0 0 j=a*(e*j) by simp[d3,d2]]at h;obtain⟨h1,h2⟩:=qY h;obtain⟨h2,h3⟩:=qY h2;intro k hk;rcases (show k=0\/k=1\/k=2 by lia) with rfl | rfl | rfl<;>simpa
 ·obtain⟨a,b,c,d,e,f,g,i,j,k',l,m,n',o,p,q',rfl⟩:=z9V hA;have z1:=z 0 1 (by lia) (by lia);have z2:=z 0 2 (by lia) (by lia);have z3:=z 1 2 (by lia) (by lia);have z4:=z 0 3 (by lia) (by lia);have z5:=z 1 3 (by lia) (by lia);have z6:=z 2 3 (by lia) (by lia);simp at z1 z2 z3 z4 z5 z6;subst z1 z2 z3 z4 z5 z6;rw[zcs,show d4 a b c d 0 f g i 0 0 l m 0 0 0 q'=a*(f*(l*q')) by simp[d4,d3,d2]]at h;obtain⟨h1,h2⟩:=qY h;obtain⟨h2,h3⟩:=qY h2;obtain⟨h3,h4⟩:=qY h3;intro k hk;rcases (show k=0\/k=1\/k=2\/k=3 by lia) with rfl | rfl | rfl | rfl<;>simpa
structure Gd(n:Nat)(T L:Tb):k! where
 len:aA!=n
 row:∀r∈L,aE!=n+n
 lk:∀r∈L,p2!=mv (ym T) mK!
 dt:mI! (on! rq!)=1
noncomputable def at2(L:Tb)(k j:Nat):Int:=bd! dR! j
section
variable {n:Nat}{T L:Tb}
theorem getD_mem{L:Tb}{k:Nat}(h:k<aA!):dR!∈L:=by
 rw[_n,_b h];exact _O h
theorem uX(L:Tb)(i k:Nat)(r:h!)(hi:i<aA!):h0! (j0! i r) k=aj! i k r dR!:=by
 simp only[_n,List.getElem?_set];split;·rename_i e;subst e;simp[hi]
 ·rfl
theorem Gd.tab(g:Gd n T L):ff! (on! rq!):=⟨by simp[g.len],cO! (by
 obtain⟨x,hx,rfl⟩:=ke!;simp[oz! x hx])⟩
theorem Gd.rl(g:Gd n T L){k:Nat}(hk:k<n):v! dR!=n+n:=oz! _ (hj! (by rw[g.len];exact hk))
theorem getD_map(L:Tb)(k n:Nat):h0! (on! rq!) k=(dR!).take n:=by
 simp only[_n,_C];cases L[k]? <;> simp
theorem Gd.sub(g:Gd n T L)(hn:ba!){h k:Nat}(hh:h<n)(hk:k<n)(ne:h≠k)(q:Int):Gd n T (j0! k (z0J q (cC! h) dR!)):=by
 have lh:=g.rl hh;have mE:=g.rl hk;have mh:=hj! (by rw[g.len];exact hh);have mk:=hj! (by rw[g.len];exact hk);refine⟨by simp[g.len],cO! ?_,cO! ?_,?_⟩
 ·rcases _z hr with h | rfl;·exact oz! r h
  ·rw[z5X (by lia)];exact mE
 ·rcases _z hr with h | rfl;·exact g.lk r h
  ·rw[z7e,zcm,zd3 (by rw[_aP,_aP,lh,mE]),g.lk _ mh,g.lk _ mk]
 ·rw[_bb,z7e,<- getD_map,<- getD_map,zmO hn g.tab hh hk ne];exact g.dt
theorem Gd.swap(g:Gd n T L)(hn:ba!){f k:Nat}(hf:f<n)(hk:k<n):Gd n T ((j0! f dR!).set k (cC! f)):=by
 have mf:=hj! (by rw[g.len];exact hf);have mk:=hj! (by rw[g.len];exact hk);have all:∀r∈(j0! f dR!).set k (cC! f),r∈L:=cO! (by
  rcases _z hr with h | rfl
  ·rcases _z h with h | rfl;·exact h
   ·exact mk
  ·exact mf)
 refine⟨by simp[g.len],cO! (oz! r (all r hr)),cO! (g.lk r (all r hr)),?_⟩;rw[_bb,_bb,<- getD_map,<- getD_map,zjW hn g.tab hf hk];exact g.dt
noncomputable def elim(a:Nat)(hd:h!):Nat->Tb->Tb
 | 0,L=>L | j+1,L=>let M:=kx! a j L;M.set (a+1+j) (z0J ((at2 M (a+1+j) a).fdiv (jC! 0)) hd (M.getD (a+1+j) []))
theorem z30(a:Nat)(hd:h!):∀(j:Nat)(L:Tb),v! (kx! a j L)=aA!
 | 0,L=>rfl | j+1,L=>by simp[elim,z30 a hd j L]
theorem z5N{a:Nat} {hd:h!} {L:Tb}:∀(j:Nat),a+1+j<=aA!->∀k,h0! (kx! a j L) k=al! (a<k/\k<a+1+j) (z0J ((dl!).fdiv (jC! 0)) hd dR!) dR!
 | 0,_,k=>by rw[_o (by lia)];rfl | j+1,h,k=>by
  have ih:=z5N (a:=a) (hd:=hd) (L:=L) j (by lia);simp only[elim];rw[uX _ _ _ _ (by rw[z30];lia)];have e1:h0! (kx! a j L) (a+1+j)=cC! (a+1+j):=by rw[ih,_o (by lia)]
  split
  ·rename_i e;subst e;rw[_h (by lia),at2,e1];rfl
  ·rename_i ne;rw[ih];by_cases hk:a<k/\k<a+1+j;·rw[_h hk,_h (by lia)]
   ·rw[_o hk,_o (by lia)]
theorem Gd.elim(hn:ba!) {a:Nat} {hd:h!}:∀(j:Nat) {L:Tb},Gd n T L->a+1+j<=n->ec!=hd->Gd n T (Pb.elim a hd j L)
 | 0,L,g,_,_=>g | j+1,L,g,h,e=>by
  have ih:=Gd.elim hn j g (by lia) e;have e1:h0! (Pb.elim a hd j L) a=hd:=by rw[z5N j (by rw[g.len];lia),_o (by lia),e]
  have:=ih.sub hn (h:=a) (k:=a+1+j) (by lia) (by lia) (by lia) ((at2 (Pb.elim a hd j L) (a+1+j) a).fdiv (jC! 0));rw[e1]at this;exact this
noncomputable def pas(n a f:Nat)(L:Tb):Tb:=elim a (cC! f) (n-1-a) ((j0! f ec!).set a (cC! f))
theorem Gd.pas(g:Gd n T L)(hn:ba!){a f:Nat}(ha:a<n)(hf:f<n):Gd n T (Pb.pas n a f L):= Gd.elim hn _ (g.swap hn hf ha) (by lia) (by rw[uX _ _ _ _ (by simp[g.len];exact ha),gx!])
theorem znl(g:Gd n T L){a f:Nat}(ha:a<n)(hf:f<n)(mF:a<=f)(k:Nat):h0! (pas n a f L) k= aj! k a (cC! f) (al! (a<k/\k<n) (let r:=aj! k f ec! dR!;z0J ((cT! a).fdiv (b9! f)) (cC! f) r) dR!):=by
 unfold pas;rw[z5N _ (by simp[g.len];lia)];have e:∀k,h0! ((j0! f ec!).set a (cC! f)) k=aj! k a (cC! f) (aj! k f ec! dR!):=λk=>by
  rw[uX _ _ _ _ (by simp[g.len];exact ha),uX _ _ _ _ (by rw[g.len];exact hf)];simp only[eq_comm (a:=a),eq_comm (a:=f)]
 by_cases hka:k=a
 ·subst hka;rw[_o (by lia),e,gx!,gx!]
 ·rw[_o hka];by_cases hk:a<k/\k<n
  ·rw[_h (by lia),_h hk];simp only[at2,e,_o hka]
  ·rw[_o (by lia),_o hk,e,_o hka];rw[_o (by lia)]
end
theorem zma{x h:Int}(hp:0<h):bE! (x-x / h*h)<kL!/\0<=(x-x / h*h)*h/\bE! (x / h)*kL!<=mj!+kL!/\(0<=x*h->bE! (x / h)*kL!<=mj!/\(kL!<=mj!->bE! (x-x / h*h)+kL!<=mj!)):=by
 have e:x-x / h*h=x % h:=by have:=Int.emod_def x h;rw[this];grind
 have r0:=_a9 x (by omega:h≠0);have r1:=_bn x hp;have d:=_a5 x h;rw[e];refine⟨by omega,_bh r0 (by omega),?_,λhx=>?_⟩
 ·rw[<- _aA];have:x / h*h=x-x % h:=by rw[<- e];grind
  rw[this];omega
 ·have x0:0<=x:=by
   by_cases z:0<=x;·exact z
   ·have:=_a6 (by omega:x<0) hp;omega
  have q0:0<=x / h:=_bO x0 (by omega);have m:x / h*h=x-x % h:=by rw[<- e];grind
  have m0:=_bh q0 (by omega:0<=h);rw[m]at m0;refine⟨by rw[<- _aA,m];omega,λhl=>?_⟩;have q1:1<=x / h:=by
   have:=Int.ediv_le_ediv hp (show h<=x by omega);rw[Int.ediv_self (by omega)]at this;exact this
  have:=_ce q1 (by omega:0<=h);omega
theorem fd{x h:Int}(hz:h≠0):bE! (x-o4!*h)<kL!/\0<=(x-o4!*h)*h/\bE! o4!*kL!<=mj!+kL!/\(0<=x*h->bE! o4!*kL!<=mj!/\(kL!<=mj!->bE! (x-o4!*h)+kL!<=mj!)):=by
 by_cases hp:0<h
 ·rw[_by _ (by omega)];exact zma hp
 ·have e:o4!=(-x) / (-h):=by rw[<- Int.neg_fdiv_neg,_by _ (by omega)]
  obtain⟨h1,h2,h3,h4⟩:=zma (h:=-h) (by omega);rw[<- e]at h1 h2 h3 h4;have e2:-x-o4!*-h=-(x-o4!*h):=by grind
  rw[e2]at h1 h2 h4;simp only[Int.natAbs_neg,Int.neg_mul_neg]at h1 h2 h3 h4;exact⟨h1,h2,h3,h4⟩
section
variable {n a f:Nat}{T L:Tb}
structure Mn(n a f:Nat)(L:Tb):k! where
 le:a<=f
 lt:f<n
 nz:b9! f≠0
 mn:∀k,a<=k->k<n->dl!≠0->fs! f<=fs! k
theorem zd0(g:Gd n T L)(ha:a<n)(hf:f<n)(mF:a<=f)(k j:Nat):at2 (pas n a f L) k j= aj! k a (eS! f j) (al! (a<k/\k<n) (eS! (aj! k f a k) j-(b9! (aj! k f a k)).fdiv (b9! f)*eS! f j) (eS! k j)):=by
 unfold at2;rw[znl g ha hf mF];by_cases hka:k=a;·rw[_h hka,_h hka]
 ·rw[_o hka,_o hka];by_cases hk:a<k/\k<n
  ·rw[_h hk,_h hk];have lf:=g.rl hf;by_cases e:k=f
   ·simp only[_h e];rw[z3A (by rw[lf,g.rl ha])];rfl
   ·simp only[_o e];rw[z3A (by rw[lf,g.rl hk.2])];rfl
  ·rw[_o hk,_o hk]
def Zr(n a:Nat)(L:Tb):k!:=∀c,c<a->∀k,c<k->k<n->eS! k c=0
theorem Zr.pas(z:Zr n a L)(g:Gd n T L)(ha:a<n)(M:Mn n a f L):Zr n a (Pb.pas n a f L):=λc hc k hk hn=>by
 rw[zd0 g ha lE! M.le];have zf:=z c hc f (by have:=M.le;omega) lE!;have za:=z c hc a (by omega) ha;have zk:=z c hc k hk hn;split;·exact zf
 ·split
  ·rw[zf];split;·rw[za];simp
   ·rw[zk];simp
  ·exact zk
structure S1(n a:Nat)(L:Tb)(H N:Nat):k! where
 hd:fs! a=H
 pos:0<H
 bel:∀k,a<k->k<n->fs! k<H/\0<=dl!*b9! a
 bd:∀k,k<n->∀j,dJ! L k j*H<N
theorem zlY{y q m:Int}{H X:Nat}(h:rc!*H<=X):bE! (y-q*m)*H<=y.natAbs*H+X*rd!:=by
 have h1:bE! (y-q*m)<=y.natAbs+rc!*rd!:=by rw[<- _aA];omega
 have h2:=_aB H h1;have h3:=_aB rd! h;rw[Nat.add_mul]at h2;have:rc!*rd!*H=rc!*H*rd!:=by rw[Nat.mul_assoc,_cu rd!,<- Nat.mul_assoc]
 omega
theorem zd9(b:Nat):2 ^ b*2 ^ b*4=2 ^ (2*b+2):=by rw[_bU,Nat.two_mul,_bU]
theorem zfE{b:Nat} (g:Gd n T L) (ha:a<n) (M:Mn n a f L) (hb:∀k,k<n->∀j,dJ! L k j<2 ^ b):S1 n a (pas n a f L) (fs! f) (2 ^ (2*b+2)):=by
 have hf:=hb f lE!;have pos:0<fs! f:=by have:=M.nz;omega
 have e:=zd0 g ha lE! M.le;refine⟨by rw[e,gx!],pos,oA! ?_,λk h2 j=>?_⟩
 ·have ea:at2 (pas n a f L) a a=b9! f:=by rw[e,gx!]
  rw[ea,e,_o (by omega),bP! h1 h2];obtain⟨r1,r2,_,_⟩:=fd M.nz;exact aw! r1 r2
 ·rw[<- zd9];have hH:=hf a;rw[e];have pp:=_cq b;have bQ:∀x y:Nat,x<2 ^ b->y<2 ^ b->x*y<2 ^ b*2 ^ b:=λx y hx hy=>_cd hx hy;split;·have:=bQ _ _ (hf j) hH;omega
  ·split
   ·obtain⟨_,_,r3,_⟩:=fd (x:=b9! (aj! k f a k)) M.nz;have mG:(aj! k f a k)<n:=by split<;>omega
    have h5:=zlY (y:=eS! (aj! k f a k) j) (m:=eS! f j) r3;have h6:=bQ _ _ (hb _ mG j) hH;have h7:=bQ _ _ (hb _ mG a) (hf j);have h8:=bQ _ _ hH (hf j);rw[Nat.add_mul]at h5;omega
   ·have:=bQ _ _ (hb k h2 j) hH;omega
theorem zb3{H N:Nat} (g:Gd n T L) (ha:a<n) (S:S1 n a L H N) (M:Mn n a f L) (hx:∃k,a<k/\k<n/\dl!≠0): S1 n a (pas n a f L) (fs! f) (2*N)/\fs! f<H/\∀k,a<k->k<n->2*dJ! (pas n a f L) k a<H:=by
 have pos:0<fs! f:=by have:=M.nz;omega
 have e:=zd0 g ha lE! M.le;have bF:fs! f<H:=by
  obtain⟨k,h1,h2,h3⟩:=hx;have:=M.mn k (by omega) h2 h3;have:=(S.bel k h1 h2).1;omega
 have fa:a<f:=by
  rcases _aQ M.le with h | h;·exact h
  ·rw[<- h]at bF;have:=S.hd;omega
 have mH:∀k,a<=k->k<n->0<=dl!*b9! f/\fs! k<=H:=oA! (by
  have s1:fs! k<=H/\0<=dl!*b9! a:=by
   rcases _aQ h1 with h | h;·exact⟨_bB (S.bel k h h2).1,(S.bel k h h2).2⟩
   ·subst h;exact⟨by rw[S.hd];exact ak!,by rw[<- Int.natAbs_mul_self];omega⟩
  have s2:=(S.bel f fa lE!).2;refine aw! ?_ s1.1;have hn:=S.hd;have hp:=S.pos;rcases Int.lt_or_gt_of_ne (show b9! a≠0 by omega) with q | q
  ·have x1:dl!<=0:=by
    apply Int.not_lt.mp;intro z;have:=Int.mul_neg_of_pos_of_neg z q;omega
   have x2:b9! f<=0:=by
    apply Int.not_lt.mp;intro z;have:=Int.mul_neg_of_pos_of_neg z q;omega
   exact _bR x1 x2
  ·have x1:0<=dl!:=by
    apply Int.not_lt.mp;intro z;have:=_a6 z q;omega
   have x2:0<=b9! f:=by
    apply Int.not_lt.mp;intro z;have:=_a6 z q;omega
   exact _bh x1 x2)
 have src:∀k,a<k->k<n->a<=(aj! k f a k)/\(aj! k f a k)<n:=oA! (by split<;>omega)
 refine⟨⟨by rw[e,gx!],pos,oA! ?_,λk h2 j=>?_⟩,bF,oA! ?_⟩
 ·have ea:at2 (pas n a f L) a a=b9! f:=by rw[e,gx!]
  rw[ea,e,_o (by omega),bP! h1 h2];obtain⟨r1,r2,_,_⟩:=fd M.nz;exact aw! r1 r2
 ·have i5 := λk hk=>_bQ (Nat.mul_le_mul_left _ (_bB bF)) (S.bd k hk j);rw[e];split;·have:=i5 f lE!;omega
  ·split
   ·rename_i hk;obtain⟨i1,i2⟩:=src k hk.1 hk.2;obtain⟨s1,s2⟩:=mH _ i1 i2;obtain⟨_,_,_,r4⟩:=fd M.nz;have h5:=zlY (y:=eS! (aj! k f a k) j) (m:=eS! f j) (_Z (r4 s1).1 s2);have h6:=i5 _ i2;have h7:=S.bd f lE! j;rw[_cu]at h7;omega
   ·have:=i5 k h2;omega
 ·rw[e,_o (by omega),bP! h1 h2];obtain⟨i1,i2⟩:=src k h1 h2;obtain⟨s1,s2⟩:=mH _ i1 i2;obtain⟨r1,_,_,r4⟩:=fd M.nz;by_cases z:b9! (aj! k f a k)=0;·rw[z];simp;have:=S.pos;omega
  ·have:=(r4 s1).2 (M.mn _ i1 i2 z);omega
end
noncomputable def C8:Nat:=2 ^ 8000
noncomputable def C2:Nat:=2 ^ bF!
inductive Lr(f:Tb->Nat)(n a:Nat):Nat->Tb->Tb->k! | done {L:Tb}(h:∀k,a<k->k<n->dl!=0):Lr f n a 0 L L | step {m:Nat}{L L':Tb}(h:∃k,a<k/\k<n/\dl!≠0)(r:∀x∈L,x.length=n+n)(l:aA!=n)(M:Mn n a (f L) L)(b1:∀i,i<n->∀j,dJ! L i j<C8)(b2:∀i,a<=i->i<n->fs! i<C2)(q:Lr f n a m (pas n a (f L) L) L'):Lr f n a (m+1) L L'
section
variable {n a:Nat}{T:Tb}{f:Tb->Nat}
theorem Zr.up{L:Tb}(z:Zr n a L)(h:∀k,a<k->k<n->dl!=0):Zr n (a+1) L:=λc hc k hk hn=>by
 rcases _aQ (Nat.le_of_lt_succ hc) with q | q;·exact z c q k hk hn
 ·subst q;exact h k hk hn
theorem zgT{L:Tb}:(∀k,a<k->k<n->dl!=0)\/∃k,a<k/\k<n/\dl!≠0:=by
 by_cases h:∃k,a<k/\k<n/\dl!≠0;·exact T! h
 ·exact z! (oA! (_Y λz=>h ⟨k,h1,h2,z⟩))
theorem S1.lt{L:Tb}{H N:Nat}(S:S1 n a L H N)(i:Nat)(hi:i<n)(j:Nat):dJ! L i j<N:=by
 have h1:=S.bd i hi j;have h2:=Nat.mul_le_mul_left (dJ! L i j) S.pos;lia
theorem S1.col{L:Tb}{H N k:Nat}(S:S1 n a L H N)(h:H<2 ^ k)(hk:k<=bF!):∀i,a<=i->i<n->fs! i<C2:=λi h1 h2=>by
 have h3:2 ^ k<=C2:=_A (by decide) hk;have h4:fs! i<=H:=by
  rcases _aQ h1 with q | q;·exact _bB (S.bel i q h2).1
  ·subst q;exact Nat.le_of_eq S.hd
 lia
theorem zuT(hn:ba!)(ha:a<n)(hf:∀L:Tb,aA!=n->(∃k,a<k/\k<n/\dl!≠0)->Mn n a (f L) L):∀(k:Nat){L:Tb}{H N:Nat},Gd n T L->Zr n a L->S1 n a L H N->H<2 ^ k->k<=bF!->N*4 ^ k<=C8-> ∃m L',Lr f n a m L L'/\Gd n T L'/\Zr n (a+1) L'/\∀i,i<n->∀j,dJ! L' i j<N*4 ^ k
 | 0,L,H,N,g,z,S,h,_,_=>by have:=S.pos;lia | k+1,L,H,N,g,z,S,h,hk,hN=>by
  have p4:N*4 ^ (k+1)=4*N*4 ^ k:=by rw[_dI];grind
  have p1:1<=4 ^ k:=Nat.pos_of_ne_zero (by simp);have pk:2 ^ (k+1)=2*2 ^ k:=by rw[_dI];lia
  have q1:4*N<=4*N*4 ^ k:=_bV _ p1;have c1:=S.col h hk;have l1:=S.lt;rw[p4]at hN ⊢;generalize hZ:4*N*4 ^ k=Z at *;rcases zgT with h0 | h0;·exact⟨0,L,.done h0,g,z.up h0,lF! (by have:=l1 i hi j;lia)⟩
  ·have M:=hf L re! h0;obtain⟨S2,h2,h3⟩:=zb3 g ha S M h0;have g2:=g.pas hn ha lE!;have z2:=z.pas g ha M;have b1:∀i,i<n->∀j,dJ! L i j<C8:=lF! (by have:=l1 i hi j;lia)
   have l2:=S2.lt;rcases zgT with h4 | h4;·exact⟨1,_,.step h0 g.row re! M b1 c1 (.done h4),g2,z2.up h4,lF! (by have:=l2 i hi j;lia)⟩
   ·have M2:=hf _ g2.len h4;obtain⟨S3,h5,h6⟩:=zb3 g2 ha S2 M2 h4;have hH:dJ! (pas n a (f L) L) (f (pas n a (f L) L)) a<2 ^ k:=by
     obtain⟨i,i1,i2,i3⟩:=h4;have:=M2.mn i (by lia) i2 i3;have:=h3 i i1 i2;lia
    have c2:=S2.col (by lia) hk;have b2:∀i,i<n->∀j,dJ! (pas n a (f L) L) i j<C8:=lF! (by have:=l2 i hi j;lia)
    have pE:S1 n a (pas n a (f (pas n a (f L) L)) (pas n a (f L) L)) (dJ! (pas n a (f L) L) (f (pas n a (f L) L)) a) (4*N):=by
     have e:2*(2*N)=4*N:=by lia
     rw[e]at S3;exact S3
    obtain⟨m,L',r,gl,zl,bl⟩:=zuT hn ha hf k (g2.pas hn ha M2.lt) (z2.pas g2 ha M2) pE hH (by lia) (by rw[hZ];exact hN);rw[hZ]at bl;exact⟨m+2,L',.step h0 g.row re! M b1 c1 (.step h4 g2.row g2.len M2 b2 c2 r),gl,zl,bl⟩
theorem column{b:Nat} {L:Tb} (hn:ba!) (ha:a<n) (hf:∀L:Tb,aA!=n->(∃k,a<k/\k<n/\dl!≠0)->Mn n a (f L) L) (g:Gd n T L) (z:Zr n a L) (hb:∀i,i<n->∀j,dJ! L i j<2 ^ b) (lV:b<=1990): ∃m L',Lr f n a m L L'/\Gd n T L'/\Zr n (a+1) L'/\∀i,i<n->∀j,dJ! L' i j<2 ^ (al! (a+1<n) (4*b+2) b):=by
 have pe:2 ^ b<=2 ^ (al! (a+1<n) (4*b+2) b):=_A (by decide) (by split<;>lia);rcases zgT (n:=n) (a:=a) (L:=L) with h0 | h0;·exact⟨0,L,.done h0,g,z.up h0,lF! (_j (hb i hi j) pe)⟩
 ·have pF:a+1<n:=by obtain⟨k,h1,h2,_⟩:=h0;lia
  rw[_h pF];have M:=hf L re! h0;have S:=zfE g ha M hb;have e:2 ^ (2*b+2)*4 ^ b=2 ^ (4*b+2):=by
   rw[show 4=2 ^ 2 from rfl,<- Nat.pow_mul,<- _bU];congr 1;lia
  have p8:2 ^ b<=C8:=_A (by decide) (by lia);have p2:2 ^ b<=C2:=_A (by decide) (by lia);obtain⟨m,L',r,gl,zl,bl⟩:=zuT hn ha hf b (g.pas hn ha lE!) (z.pas g ha M) S (hb _ lE! a) (by lia) (by rw[e];exact _A (by decide) (by lia));rw[e]at bl;exact⟨m+1,L',.step h0 g.row re! M (lF! (_j (hb i hi j) p8)) (λi _ hi=>_j (hb i hi a) p2) r,gl,zl,bl⟩
end
structure Bk(n:Nat)(T L:Tb)(m:Nat):k! where
 len:aA!=n
 row:∀r∈L,aE!=n+n
 lk:∀r∈L,p2!=mv (ym T) mK!
 tri:∀c k,c<k->k<n->eS! k c=0
 dia:∀k,k<m->dJ! L k k=1
 un:∀c,m<=c->c<n->∀k,k<n->eS! k c=aj! k c 1 0
noncomputable def scl(a:Nat)(L:Tb):Tb:=j0! a ((ec!).map λx=>x*b9! a)
noncomputable def bk(a:Nat):Nat->Tb->Tb
 | 0,L=>L | j+1,L=>let M:=bk a j L;M.set j (z0J (at2 M j a) (M.getD a []) (M.getD j []))
section
variable {n a m:Nat}{T L:Tb}
theorem Bk.rl(g:Bk n T L m){k:Nat}(hk:k<n):v! dR!=n+n:=oz! _ (hj! (by rw[g.len];exact hk))
theorem z8X(a:Nat):∀(j:Nat)(L:Tb),v! (bk a j L)=aA!
 | 0,L=>rfl | j+1,L=>by simp[bk,z8X a j L]
theorem zhG{a:Nat}{L:Tb}:∀(j:Nat),j<=a->a<aA!->∀k,h0! (bk a j L) k=al! (k<j) (z0J dl! ec! dR!) dR!
 | 0,_,_,k=>by rw[_o (by omega)];rfl | j+1,h,hl,k=>by
  have ih:=zhG j (by omega) hl;simp only[bk];have ea:h0! (bk a j L) a=ec!:=by rw[ih,_o (by omega)]
  have ej:h0! (bk a j L) j=cC! j:=by rw[ih,_o (by omega)]
  have e2:at2 (bk a j L) j a=b9! j:=by rw[at2,ej];rfl
  rw[uX _ _ _ _ (by rw[z8X];omega),ea,ej,e2];split;·rename_i e;subst e;rw[_h (by omega)]
  ·rename_i ne;rw[ih k];by_cases hk:k<j;·rw[_h hk,_h (by omega)]
   ·rw[_o hk,_o (by omega)]
theorem zi0(d:Int):∀(c r:List Int),dot c (ni! (λx=>x*d))=dot c r*d:=λc r=>zac d c r
theorem zee(d:Int)(r:h!):∀C:Tb,mv C (ni! (λx=>x*d))=(mv C r).map λx=>x*d
 | []=>rfl | c::C=>by
  have:=zee d r C;simp only[mv,_p]at this ⊢;rw[this,zi0]
theorem zh4(d:Int)(r:h!)(j:Nat):bd! (ni! (λx=>x*d)) j=cT! j*d:=by
 simp only[_n,_C];cases r[j]? <;> simp
theorem zlB(g:Bk n T L (a+1))(ha:a<n)(k j:Nat):at2 (scl a L) k j=aj! k a (eS! a j*b9! a) (eS! k j):=by
 unfold at2 scl;rw[uX _ _ _ _ (by rw[g.len];exact ha)];by_cases e:k=a
 ·subst e;rw[gx!,gx!,zh4];rfl
 ·rw[_o (λz=>e jn!),_o e]
theorem Bk.row_at(g:Bk n T L (a+1))(ha:a<n){c:Nat}(hc:c<n)(ne:c≠a):eS! a c=0:=by
 rcases Nat.lt_or_gt_of_ne ne with h | h;·exact g.tri c a h ha
 ·rw[g.un c h hc a ha,_o (by omega)]
theorem step_at(g:Bk n T L (a+1))(ha:a<n)(k j:Nat)(hk:k<n):at2 (bk a a (scl a L)) k j=al! (k<a) (eS! k j-dl!*(eS! a j*b9! a)) (aj! k a (eS! a j*b9! a) (eS! k j)):=by
 have lS:a<v! (scl a L):=by simp[scl,g.len];exact ha
 have e:=zlB g ha;rw[at2,zhG a ak! lS];split
 ·rename_i h;rw[z3A]
  ·have e1:=e k j;have e2:=e a j;have e3:=e k a;rw[_o (by omega)]at e1 e3;rw[gx!]at e2;rw[show bd! (h0! (scl a L) k) j=at2 (scl a L) k j from rfl,show bd! (h0! (scl a L) a) j=at2 (scl a L) a j from rfl,e1,e2,e3]
  ·simp only[scl];rw[uX _ _ _ _ (by rw[g.len];exact ha),uX _ _ _ _ (by rw[g.len];exact ha),gx!,_o (by omega),_X,g.rl ha,g.rl hk]
 ·exact e k j
theorem Bk.step(g:Bk n T L (a+1)) (ha:a<n):Bk n T (bk a a (scl a L)) a:=by
 have dd:b9! a*b9! a=1:=by
  have:=g.dia a (by omega);rcases Int.natAbs_eq_iff.mp jq! with h | h<;>rw[h]<;>rfl
 have ra:∀r,r=(ec!).map (λx=>x*b9! a)->aE!=n+n/\p2!=mv (ym T) mK!:=λr e=>by
  subst e;have m:=hj! (by rw[g.len];exact ha);refine⟨by rw[_X,g.rl ha],?_⟩;rw[<- _ci,<- _aT,zee,g.lk _ m]
 have rs:∀r∈scl a L,aE!=n+n/\p2!=mv (ym T) mK!:=cO! (by
  rcases _z hr with h | h;·exact⟨oz! r h,g.lk r h⟩
  ·exact ra r h)
 have lS:v! (scl a L)=n:=by simp[scl,g.len]
 have all:∀j,j<=a->∀r∈bk a j (scl a L),aE!=n+n/\p2!=mv (ym T) mK!:=by
  intro j;induction j with
  | zero=>exact λ_=>rs | succ j ih=>
   intro hj r hr;have ih:=ih (by omega);simp only[bk]at hr;rcases _z hr with h | rfl;·exact ih r h
   ·have m1:=getD_mem (L:=bk a j (scl a L)) (by rw[z8X,lS];exact ha);have m2:=getD_mem (L:=bk a j (scl a L)) (k:=j) (by rw[z8X,lS];omega);obtain⟨l1,k1⟩:=ih _ m1;obtain⟨l2,k2⟩:=ih _ m2;refine⟨by rw[z5X (by omega)];exact l2,?_⟩;rw[z7e,zcm,zd3 (by rw[_aP,_aP,l1,l2]),k1,k2]
 have e:=step_at g ha;refine⟨by rw[z8X,lS],cO! (all a ak! r hr).1,cO! (all a ak! r hr).2,λc k h1 h2=>?_,λk hk=>?_,λc h1 h2 k hk=>?_⟩
 ·rw[e k c h2,g.tri c k h1 h2];by_cases hc:c=a;·subst hc;rw[_o (by omega),_o (by omega)]
  ·rw[g.row_at ha (by omega) hc];simp
 ·rw[e k k (by omega),_h hk,g.row_at ha (by omega) (by omega)];simp;exact g.dia k (by omega)
 ·rw[e k c hk];by_cases hc:c=a
  ·subst hc;rw[dd];split;·rw[_o (by omega)];omega
   ·split;·rfl
    ·rename_i h3 h4;exact g.tri c k (by omega) hk
  ·rw[g.row_at ha h2 hc];have u:=g.un c (by omega) h2 k hk;split;·rw[u];simp
   ·split;·rename_i h4;subst h4;rw[_o (λz=>hc jn!)];simp
    ·exact u
theorem znf{b:Nat}(g:Bk n T L (a+1))(ha:a<n)(hb:∀i,i<n->∀j,dJ! L i j<2 ^ b):∀i,i<n->∀j,dJ! (bk a a (scl a L)) i j<2 ^ (2*b+1):=lF! (by
 have d1:=g.dia a (by omega);have ea:bE! (eS! a j*b9! a)=dJ! L a j:=by rw[_aA,d1,Nat.mul_one]
 have p:2 ^ (2*b+1)=2*(2 ^ b*2 ^ b):=by rw[_dI,Nat.two_mul,_bU];omega
 have h1:=hb i hi j;have h2:2 ^ b<=2 ^ b*2 ^ b:=_bV _ (_cq b);rw[step_at g ha i j hi,p];split
 ·have h3:bE! (b9! i*(eS! a j*b9! a))<2 ^ b*2 ^ b:=by rw[_aA,ea];exact _cd (hb i hi a) (hb a ha j)
  omega
 ·split;·have:=hb a ha j;omega
  ·omega)
end
theorem zno{n:Nat}{A B:Tb}(hn:ba!)(ha:iw!)(hb:ff! B):A.map (mv (ym B))=kr A B:=by
 rcases hn with rfl | rfl | rfl
 ·obtain⟨a,b,c,d,rfl⟩:=z9t ha;obtain⟨a',b',c',d',rfl⟩:=z9t hb;rw[zcr];simp[mv,ym,List.range,List.range.loop,_b4]
 ·obtain⟨a,b,c,d,e,f,g,i,j,rfl⟩:=zaf ha;obtain⟨a',b',c',d',e',f',g',i',j',rfl⟩:=zaf hb;rw[zbC];simp[mv,ym,List.range,List.range.loop,_b4]
 ·obtain⟨a,b,c,d,e,f,g,i,j,k,l,m,n',o,p,q,rfl⟩:=z9V ha;obtain⟨a',b',c',d',e',f',g',i',j',k',l',m',rq,o',p',q',rfl⟩:=z9V hb;rw[zbN];simp[mv,ym,List.range,List.range.loop,_b4]
section
variable {n:Nat}{T L:Tb}
theorem zkU(hn:ba!)(hT:g5!)(hf:z0P T)(g:Bk n T L 0):sB! n=gP! T:=by
 have tB:ff! (sB! n):=⟨by simp[g.len],cO! (by
  obtain⟨x,hx,rfl⟩:=ke!;simp[oz! x hx])⟩;have e1:on! rq!=b0!:=by
  apply _c6;intro k;by_cases hk:k<n
  ·have hl:k<aA!:=by rw[g.len];exact hk
   rw[_C,_b hl,one,_C,_aF hk];simp only[_ah,_y];apply _c6;intro c;have el := oz! _ (_O hl);by_cases hc:c<n
   ·have u:=g.un c g8! hc k hk;have ga:eS! k c=L[k][c]'(by lia):=by simp[at2,_b hl,_b (show c<v! (L[k]) by lia)]
    rw[ga]at u;rw[_am hc,_b (by lia),u,_C,_aF hc];rfl
   ·rw[_K (by simp;lia),_K (by simp;lia)]
  ·rw[_K (by simp[g.len];lia),_K (by simp[one];lia)]
 have e2:kr (sB! n) T=b0!:=by
  rw[<- zno hn tB hT,<- e1,_ak];exact _a0 (cO! (g.lk r hr).symm)
 have b:=z7H hn hT hf;have h3:=assoc hn tB hT (z1x hT);rw[e2,b.2,(za0 hn (z1x hT)).1,(za0 hn tB).2]at h3;exact h3.symm
noncomputable def lay(T:Tb):Tb:=ot! (λa b=>a++b) T (one aZ!)
theorem zpE(hn:ba!)(hT:g5!)(hf:z0P T):Gd n T (lay T):=by
 have ln:v! (lay T)=n:=by simp[lay,one,hT.len]
 have hd:mI! T=1:=by rcases hf with h | h<;>rw[h]<;>rfl
 have tk:(lay T).map rq!=T/\(∀r∈lay T,aE!=n+n)/\∀r∈lay T,p2!=mv (ym T) mK!:=by
  rcases hn with rfl | rfl | rfl
  ·obtain⟨a,b,c,d,rfl⟩:=z9t hT;refine⟨rfl,cO! ?_,cO! ?_⟩<;>(simp[lay,one,List.range,List.range.loop]at hr;rcases hr with rfl | rfl<;>simp[mv,ym,List.range,List.range.loop])
  ·obtain⟨a,b,c,d,e,f,g,i,j,rfl⟩:=zaf hT;refine⟨rfl,cO! ?_,cO! ?_⟩<;>(simp[lay,one,List.range,List.range.loop]at hr;rcases hr with rfl | rfl | rfl<;>simp[mv,ym,List.range,List.range.loop])
  ·obtain⟨a,b,c,d,e,f,g,i,j,k,l,m,n',o,p,q,rfl⟩:=z9V hT;refine⟨rfl,cO! ?_,cO! ?_⟩<;>(simp[lay,one,List.range,List.range.loop]at hr;rcases hr with rfl | rfl | rfl | rfl<;>simp[mv,ym,List.range,List.range.loop])
 exact⟨ln,tk.2.1,tk.2.2,by rw[tk.1];exact hd⟩
theorem zrl{b:Nat}(hn:ba!)(hT:g5!)(hb:Bd b T)(b1:1<=b):∀i,i<n->∀j,dJ! (lay T) i j<2 ^ b:=lF! (by
 have h2:1<2 ^ b:=Nat.one_lt_two_pow (by lia);have all:∀r∈lay T,∀x∈r,c7! b:=λr hr x hx=>by
  simp only[lay]at hr;obtain⟨k,hk,e⟩:=gM! hr;rw[List.getElem_zipWith]at e;subst e;rcases l9! hx with h | h;·exact hb _ (_O _) x h
  ·simp only[one,_dr,_t]at h;obtain⟨c,_,rfl⟩:=h;split<;>simp<;>lia
 unfold at2;have ln:i<v! (lay T):=by simp[lay,one,hT.len];exact hi
 exact z6v (all _ (hj! ln)) j)
theorem Gd.bk(g:Gd n T L)(hn:ba!)(z:Zr n n L):Bk n T L n:=by
 have tri := λc k h1 h2=>z c (by lia) k h1 h2;have tk:∀k c,c<n->bd! (h0! (on! rq!) k) c=eS! k c:=λk c hc=>by
  rw[getD_map];simp[at2,_am hc]
 refine⟨re!,g.row,g.lk,tri,λk hk=>?_,λc h1 h2=>by lia⟩;have:=zoP hn g.tab (λc k h1 h2=>by rw[tk k c (by lia)];exact tri c k h1 h2) g.dt k hk;rw[tk k k hk]at this;exact this
end
end Pb
namespace Pr
open L2 Dd Pm Pg Pn Po
theorem zfk:∀a b:List Int,PyData.eqvAll (of! (iL a)) (of! (iL b))=fh! a b
 | [],[]=>by simp[toPys,PyData.eqvAll] | [],_::_=>by simp[toPys,PyData.eqvAll] | _::_,[]=>by simp[toPys,PyData.eqvAll] | x::a,y::b=>by
  have ih:=zfk a b;simp only[iL]at ih;simp[toPys,z86,PyData.eqvAll,PyData.eqv,ih];rfl
theorem zll(a b:h!):eqD (rD a) (rD b)=fh! a b:=by
 have:=zfk a b;simp only[eqD,z86,PyData.eqv,this]
theorem znv(a b:h!)(s:Sto):dEq (rD a) (rD b) s=aV! (fh! a b):=by rw[dEq,bP! (z8D (k:=1) (zml 0 a) (by decide)) (z8D (k:=1) (zml 0 b) (by decide)),zll]
end Pr
namespace Pt
open L2 Dd Pm Pg Pn Po Pr
structure Lt(n b:Nat)(v:h!):k! where
 lot:aH!
 le:∀x∈v,x<=j! b
end Pt
namespace Pv
open L2 Dd Pm Pg Pn Po Pr Pt
end Pv
namespace Pv
open L2 Dd Pm Pg Pn Po Pr Pt
end Pv
namespace aW
open L2 Dd Pm Pg Pn Po Pb
noncomputable def rL(r:h!):D:=bJ! r
theorem z3R(r:h!):(rL r).flat=d!:=by
 unfold rL;simp only[D.flat];induction r with
 | nil=>rfl | cons x r ih=>simp only[_p,Bool.true_and]at ih ⊢;exact ih
theorem zeP:∀L:Tb,dc! mn!
 | []=>rfl | r::L=>by simp only[_p,D.flat.flats,z3R,zeP L,Bool.and_self]
theorem xP(s:Sto)(x:D!):G! (s++[x]) ct! x:=by simp
theorem z6E(s:Sto)(x y:D!):(s++[x]).set ct! y=s++[y]:=by simp
theorem jz{L:Tb}{s:Sto}{l k:Nat}(h:G! s l mn!)(hk:k<aA!):c5! dP! k s=i! (rL dR!):=by
 refine zbg h (by lia) ?_;rw[_C,_T,_b hk,_n,_b hk];rfl
theorem znL{r:h!}{s:Sto}{j:Nat}(hj:j<aE!):c5! (rL r) j s=x! (cT! j):=by
 refine wT (by lia) ?_;rw[_C,_T,_b hj,_n,_b hj];rfl
theorem el2{L:Tb}{s:Sto}{ρ:Ev}{a b c l k j:Nat}(h:G! s l mn!)(ha:G! ρ a F!)(hb:G! ρ b bT!)(hc:G! ρ c aY!)(hk:k<aA!)(hj:j<v! dR!): hw! (ce! a b) (zd c) ρ s=x! (eS! k j):=by
 rw[op2 (by rw[op2 (vr ha) (vr hb),jz h hk]) (vr hc),znL hj];rfl
theorem zip_rows:∀h r:List Int,z4I (iL h) (iL r)=kb! h r (iT! (cU! p.1 p.2))
 | [],_=>by simp[z4I] | _::_,[]=>by simp[z4I] | a::h,b::r=>by
  have:=zip_rows h r;simp only[_p,z4I,_bp]at this ⊢;rw[this]
theorem zgY(q:Int):∀h r:List Int,kb! h r (λp=>aK! (p.2-q*p.1))=iL (z0J q h r)
 | [],_=>by simp[z0J] | _::_,[]=>by simp[z0J] | a::h,b::r=>by
  have:=zgY q h r;simp only[z0J,_bp,_p,_at]at this ⊢;rw[this]
theorem zel{L:Tb} {s:Sto} {ρ:Ev} {l k:Nat} {q:Int} {h:h!} (hs:G! s l mn!) (h2:G! ρ 2 F!) (h6:G! ρ 6 (hn! h)) (h7:G! ρ 7 bT!) (h8:G! ρ 8 (e! q)) (hk:k<aA!) (hl:h.length<=100) (bq:rc!<2 ^ (2 ^ 16)) (bh:∀x∈h,c7! (2 ^ 16)): zv (z54 (cd! (zd 6) (ce! 2 7))) (dw! 8) (yT 1 2) zU (ks! 2 (ej! z8z 0 r!)) ρ s=i! (rL (z0J q h dR!)):=by
 have row:hw! N! (zd 7) ρ s=i! (rL dR!):=by rw[op2 (vr h2) (vr h7),jz hs hk]
 have hi:z54 (cd! (zd 6) (ce! 2 7)) ρ s=i! (kb! h dR! (iT! (cU! p.1 p.2)),[]):=by simp only[z54,zr,zK,row,vr h6,Rb,rL,z94,zip_rows,_aK]
 have e8:wU (dw! 8) ρ=dw! (c! q):=by simp[h8]
 have:=comp_map (fg:=yT 1 2) (fe:=ks! 2 (ej! z8z 0 r!)) (pB! (gN! (cU! p.1 p.2))) (λp=>aK! (p.2-q*p.1)) (λp=>[e! q,e! p.1,e! p.2]) (pA! h dR!) hi (bs! (by rw[e8];rfl)) (bs! (by
   have m:eOp z8z q! r! [e! q,e! p.1,e! p.2] s=x! (q*p.1):=by
    rw[eZ! p!];exact zhy bq (bh _ (l2!).1) s
   rw[eZ! m];rfl)) (by simp[cap];lia);rw[this,zgY];rfl
noncomputable def V9(t:D)(n l:Nat)(x3 x4 x5 x6 x7 x8:fG!):Ev:=[b! t,aC!,F!,x3,x4,x5,x6,x7,x8]
noncomputable def z3M(n a:Nat)(L:Tb):jD!:=lj! (aP! (n-a) (λk=>a+k)) (λk=>ci! dl! 0)
noncomputable def prs(n a:Nat)(L:Tb):Tb:=(z3M n a L).map λk=>[j! (fs! k),j! k]
noncomputable def z9q(n a:Nat)(L:Tb):Nat:=match z8B [] (W! (eB! (prs n a L))) with
 | some (.tup [_,.int i]::_)=>i.toNat | _=>0
theorem z2N{n a k:Nat}{L:Tb}:k∈z3M n a L ↔ a<=k/\k<n/\dl!≠0:=by
 simp only[z3M,_bq,_t,_aL,_ax];constructor;·rintro⟨⟨j,h,rfl⟩,z⟩;exact⟨by lia,by lia,z⟩
 ·rintro⟨h1,h2,z⟩;exact aw! ⟨k-a,by lia,by lia⟩ z
theorem zk2(n a:Nat)(L:Tb):(z3M n a L).Nodup:=by
 refine List.Pairwise.filter _ (_c9 _ (λx y h=>?_) List.nodup_range);intro z;exact h (by lia)
theorem zb8(n a:Nat)(L:Tb):v! (z3M n a L)<=n-a:=_Z (List.length_filter_le _ _) (by simp)
theorem zif{n a:Nat}{L:Tb}(hn:n<=4)(h:∃k,a<k/\k<n/\dl!≠0):∃(G:Tb),z8B [] (W! (eB! (prs n a L)))=b! (eB! (([j! (fs! (z9q n a L)),j! (z9q n a L)])::G))/\Mn n a (z9q n a L) L:=by
 have nd:(prs n a L).Nodup:=by
  refine _c9 _ (λx y h z=>h ?_) (zk2 n a L);simp at z;have:=z.2;lia
 have ln:v! (prs n a L)<64:=by have:=zb8 n a L;simp only[prs,_X];lia
 obtain⟨G,e,up,mem,gl⟩:=Pr.zkn (d:=W! (eB! (prs n a L))) rfl nd (z! ln) (ls! (by
  simp only[prs,_t]at hv;obtain⟨k,_,rfl⟩:=hv;simp));obtain⟨k0,h1,h2,h3⟩:=h;have m0 := (mem _).mpr (_t.mpr ⟨k0,z2N.mpr ⟨by lia,h2,h3⟩,rfl⟩);cases G with
 | nil=>simp at m0 | cons g G=>
  have mg:=(mem g).mp in!;simp only[prs,_t]at mg;obtain⟨f,hf,rfl⟩:=mg;obtain⟨f1,f2,f3⟩:=z2N.mp hf;have ef:z9q n a L=f:=by
   unfold z9q;rw[e];simp[rD]
  rw[ef];refine⟨G,e,f1,f2,f3,λk k1 k2 k3=>?_⟩;have mk := (mem _).mpr (_t.mpr ⟨k,z2N.mpr ⟨k1,k2,k3⟩,rfl⟩);rcases dE! mk with z | z;·simp at z;lia
  ·have:=(List.pairwise_cons.mp up).1 _ z;simp only[lexN]at this;split at this;·lia
   ·have:=_c8 jq!;lia
section
variable {t:D}{n a:Nat}{L:Tb}{s:Sto}{x4 x5 x6 x7 x8:fG!}
theorem zhb(s:Sto)(xs:D!):z8B s bH!=z8B [] bH!:=rfl
theorem zhF{f g:FE}{ρ:Ev}{s:Sto}{i j:Nat}(hf:ay!=x! i)(hg:g ρ s=x! j)(hi:dn! i)(hj:dn! j):zdh (cd! f g) ρ s=i! ((aP! (j-i) (λk=>i+k)).map (fD! k),[]):=by
 simp only[zny,zr,zK,hf,hg,Rb];rw[_h (by lia)];simp only[_ak];rw[show fy! (j! j-i)=j-i by lia];congr 2
theorem zsC(hn:n<=4) (ha:a<n) (hl:aA!=n) (hr:∀r∈L,aE!=n+n):vO (gh! x6) bf!=K! (ds! t n (e! a) (bg! ((z3M n a L).map (fD! k))) x5 x6 x7 x8) bf!:=by
 have hs:=xP s mn!;have c:zv (zdh (hP! 3 1)) (fm! 3 2) (yg 2) (eC! (cl! (bl! 2) q!) B!) N! (gh! x6) bf!=gD! (W! ((z3M n a L).map (fD! k))):= xK (fD! k) (fD! k) (λk=>ci! dl! 0) (λk=>[e! a,Q!,bT!]) (aP! (n-a) (λk=>a+k)) (zhF p! p! (by lia) (by lia)) (λk _=>rfl) (λk hk=>by
    obtain⟨j,hj,rfl⟩:=_t.mp hk;have hj:=_aL.mp hj;have e:=el2 (ρ:=[e! a,Q!,e! (ab! (a+j))]) (a:=1) (b:=2) (c:=0) hs rfl rfl rfl (by lia) (by rw[o0! _ (by lia)];lia);rw[vz];rw[op2 e (qr ..),z5r]) (λk _ _=>p!) (by simp[cap];lia);rw[vO,zR,c];rfl
end
section
variable {t:D}{n a:Nat}{L:Tb}{s:Sto}{x4 x5 x6 x7 x8:fG!}
theorem zsV(hn:n<=4) (ha:a<n) (hl:aA!=n) (hr:∀r∈L,aE!=n+n) (h:∃k,a<k/\k<n/\dl!≠0):vQ (ds! t n (e! a) (bg! ((z3M n a L).map (fD! k))) x5 x6 x7 x8) bf!=K! (ds! t n (e! a) (bg! ((z3M n a L).map (fD! k))) (e! (z9q n a L)) x6 x7 x8) bf!:=by
 have hs:=xP s mn!;have c:zv (zP (zd 4)) (fm! 3 2) (yg 2) zU (dD! (aG! zlv (cl! (bl! 2) q!)) N!) (ds! t n (e! a) (bg! ((z3M n a L).map (fD! k))) x5 x6 x7 x8) bf!=gD! (W! (eB! (prs n a L))):=by
  have:=comp_map (fi:=zP (zd 4)) (mp:=fm! 3 2) (fg:=yg 2) (fe:=dD! (aG! zlv (cl! (bl! 2) q!)) N!) (ρ:=ds! t n (e! a) (bg! ((z3M n a L).map (fD! k))) x5 x6 x7 x8) (s:=bf!) (fD! k) (λk:Nat=>rD [j! (fs! k),j! k]) (λk=>[e! a,Q!,bT!]) (z3M n a L) (jA p!) (λk _=>rfl) (λk hk=>by
    obtain⟨k1,k2,k3⟩:=z2N.mp hk;have e:=el2 (ρ:=[e! a,Q!,e! (j! k)]) (a:=1) (b:=2) (c:=0) hs rfl rfl rfl (by lia) (by rw[o0! _ (by lia)];lia);have e1:=yI (M:=zlv) e;simp only[zlv]at e1;simp only[z1L,zr,zK,e1,vr (ρ:=[e! a,Q!,e! (j! k)]) (i:=2) rfl,Rb];rw[_h (by simp[cap]),show (al! (dl!<0) (-dl!) dl!)=j! (fs! k) by lia];rfl) (by have:=zb8 n a L;simp[cap];lia);rw[this];simp only[prs,_ak];rfl
 obtain⟨G,eG,M⟩:=zif hn h;have e2:zg zbj (aU! (iS! (zP (zd 4)) (fm! 3 2) 2 (dD! (aG! zlv (cl! (bl! 2) q!)) N!))) (ds! t n (e! a) (bg! ((z3M n a L).map (fD! k))) x5 x6 x7 x8) bf!=gD! (W! (eB! (([j! (fs! (z9q n a L)),j! (z9q n a L)])::G))):=by
  rw[yI c];simp only[zbj];rw[zhb,eG]
 have e3:∀(x:Int) (f:Nat),c5! (W! (eB! ([x,j! f]::G))) 0 bf!=gD! (rD [x,j! f]):=λx f=>kv! (by decide);have e4:∀(x:Int) (f:Nat),c5! (rD [x,j! f]) 1 bf!=gD! (c! f):=λx f=>rfl;have e5:=bb! (op2 e2 (qr _ _ cL!)) (e3 _ _);rw[vQ,zR,bb! (op2 e5 (qr _ _ (c! 1))) (e4 _ _)];rfl
theorem zs0{f:Nat}(hf:f<aA!):vZ (ds! t n (e! a) x4 (e! f) x6 x7 x8) bf!=K! (ds! t n (e! a) x4 (e! f) (hn! (cC! f)) x7 x8) bf!:=by
 rw[vZ,zR,eZ! p!,jz (xP s mn!) hf];rfl
theorem zuQ{f:Nat}(hf:f<aA!)(ha:a<aA!):vT (ds! t n (e! a) x4 (e! f) x6 x7 x8) bf!=K! (ds! t n (e! a) x4 (e! f) x6 x7 x8) (s++[f8! (j0! f ec!)]):=by
 rw[vT,z2W (by rw[eZ! p!,jz (xP s mn!) ha]) p! p! (xP s _) (by lia) (by simp;lia) (z3R _),z6E,_bb];rfl
theorem zuy{r:h!}(ha:a<aA!):uf (gh! (hn! r)) bf!=K! (gh! (hn! r)) (s++[f8! (j0! a r)]):=by
 rw[uf,z2W p! p! p! (xP s _) (by lia) (by simp;lia) (z3R _),z6E,_bb];rfl
theorem zpa{k:Nat} {hd:h!} (hk:k<aA!) (hr:∀r∈L,a<aE!) (ha:a<hd.length) (nz:jC! 0≠0) (bd:bE! (jC! 0)<BIG):uS (hB! l5! bT! x8) bf!=K! (hB! l5! bT! (e! ((dl!).fdiv (jC! 0)))) bf!:=by
 have e:=el2 (ρ:=hB! l5! bT! x8) (a:=2) (b:=7) (c:=3) (xP s _) rfl rfl rfl hk (o0! _ hk);have e2:hw! (zd 6) be! (hB! l5! bT! x8) bf!=gD! (c! (jC! 0)):=by rw[eZ! p!,znL ha]
 rw[uS,zR,op2 e e2,zkr nz bd];rfl
theorem zqJ{k:Nat}{q:Int}{hd:h!}(hk:k<aA!)(hl:hd.length<=100)(bq:rc!<2 ^ (2 ^ 16))(bh:∀x∈hd,c7! (2 ^ 16)):uV (hB! l5! bT! (e! q)) bf!=K! (hB! l5! bT! (e! q)) (s++[f8! (j0! k (z0J q hd dR!))]):=by
 rw[uV,z2W (zel (xP s _) rfl rfl rfl rfl hk hl bq bh) p! p! (xP s _) (by lia) (by simp;lia) (z3R _),z6E,_bb];rfl
end
theorem pw{b c:Nat}(h:b<=c):2 ^ b<=2 ^ c:=_A (by decide) h
theorem zvE{x:Nat}(h:x<C2):x<BIG:=_j h (pw (by decide))
theorem zso{x:Nat}(h:x<C2):x+1<2 ^ (2 ^ 16):=_bQ h (Nat.pow_lt_pow_right (by decide) (by decide))
theorem zsQ{x:Nat}(h:x<C8):x<2 ^ (2 ^ 16):=_j h (pw (by decide))
theorem zdd{L:Tb}{k:Nat}{x:Int}(h:x∈dR!):∃j,x=eS! k j:=by
 obtain⟨j,hj,e⟩:=gM! h;exact⟨j,by rw[at2,_n ,_b hj];exact e.symm⟩
section
variable {t:D}{n a:Nat}{L:Tb}{s:Sto}{x4 x5 x6 x7 x8:fG!}
theorem zqX{hd:h!} (hn:n<=4) (ha:a<n) (hl:aA!=n) (hr:∀r∈L,aE!=n+n) (hh:hd.length=n+n) (nz:jC! 0≠0) (bd:bE! (jC! 0)<C2) (bh:∀x∈hd,mj!<C8) (bc:∀k,a<k->k<n->fs! k<C2): ∃y7 y8,vj (gh! l5!) bf!=K! (hB! l5! y7 y8) (s++[f8! (kx! a (n-1-a) L)]):=by
 have hi:zdh (ib! (f7! 3) 1) (gh! l5!) bf!=gD! ((aP! (n-(a+1)) (λk=>a+1+k)).map (fD! k),[]):= zhF (by rw[eZ! (qr ..),zbz];rfl) p! (by lia) (by lia);obtain⟨ρ',s',e,y7,y8,e1,e2⟩:=z1F (body:=eA! (yg 7 d ρ s) ((zA uS uV) ρ' s')) (λj ρ S=>∃y7 y8,ρ=hB! l5! y7 y8/\S=s++[f8! (kx! a j L)]) ((aP! (n-(a+1)) (λk=>a+1+k)).map (fD! k)) 0 (λj x hx ρ S hI=>by
   obtain⟨y7,y8,rfl,rfl⟩:=hI;rw[_aq];have hj:j<n-(a+1):=by have:=cV! hx;simpa using this
   have ex:x=c! (ab! (a+1+j)):=by
    rw[_C,_C,_aF hj]at hx;exact (_J hx).symm
   have len:v! (kx! a j L)=n:=by rw[z30,hl]
   have get:=z5N (a:=a) (hd:=hd) (L:=L) j (by lia);have cw:∀r∈kx! a j L,a<aE!:=λr cS=>by
    obtain⟨k,hk,e⟩:=gM! cS;have e':r=h0! (kx! a j L) k:=by rw[_n,_b hk];exact e.symm
    rw[e',get];have lk:=hr _ (getD_mem (k:=k) (by lia));split;·rw[z5X (by lia)];lia
    ·lia
   have ek:at2 (kx! a j L) (a+1+j) a=b9! (a+1+j):=by rw[at2,get,_o (by lia)];rfl
   have f1:=zpa (t:=t) (n:=n) (s:=s) (x4:=x4) (x5:=x5) (x8:=y8) (k:=a+1+j) (by lia) cw (by lia) nz (zvE bd);have q:=(fd (x:=b9! (a+1+j)) nz).2.2.1;have bq:bE! ((at2 (kx! a j L) (a+1+j) a).fdiv (jC! 0))<2 ^ (2 ^ 16):=by
    rw[ek];have h1:=zso (bc (a+1+j) (by lia) (by lia));have h0:1<=bE! (jC! 0):=by lia
    refine _bQ ?_ h1;generalize bE! ((b9! (a+1+j)).fdiv (jC! 0))=Q at q ⊢;generalize bE! (jC! 0)=Hh at q h0;generalize fs! (a+1+j)=X at q;apply _Y;intro z;have h2:(X+2)*Hh<=Q*Hh:=_aB _ (by lia);have h3:X<=X*Hh:=_bV _ h0;rw[Nat.add_mul]at h2;lia
   have f2:=zqJ (t:=t) (n:=n) (a:=a) (L:=kx! a j L) (s:=s) (x4:=x4) (x5:=x5) (k:=a+1+j) (hd:=hd) (by lia) (by lia) bq (ah! (zsQ (bh x hx)));refine⟨_,_,?_,e! (ab! (a+1+j)),e! ((at2 (kx! a j L) (a+1+j) a).fdiv (jC! 0)),rfl,rfl⟩;rw[ex,ua,Rb];exact iY! f1 f2) (gh! l5!) bf! (fH! x7 x8 rfl);refine aN! y7 y8 ?_;rw[vj,jP,hi,Rb];refine rI! ?_;rw[e1,e2];simp only[_X,List.length_range,_aq];rw[show n-(a+1)=n-1-a by lia]
theorem zoL(hn:n<=4)(ha:a<n)(hl:aA!=n)(hr:∀r∈L,aE!=n+n)(h:∃k,a<k/\k<n/\dl!≠0)(b1:∀i,i<n->∀j,dJ! L i j<C8)(b2:∀i,a<=i->i<n->fs! i<C2): ∃y4 y5 y6 y7 y8,zA vO (du! vQ vZ vT uf vj) (gh! x6) bf!=K! (ds! t n (e! a) y4 y5 y6 y7 y8) (s++[f8! (pas n a (z9q n a L) L)]):=by
 obtain⟨_,_,M⟩:=zif hn h;rw[zn (zsC hn ha hl hr),zn (zsV hn ha hl hr h)];have fl:=M.lt;have pG:=M.le;have pH:=M.nz;generalize z9q n a L=f at *;have fX:f<aA!:=by lia
 rw[zn (zs0 fX),zn (zuQ fX (by lia)),zn (zuy (by simp;lia))];have eg:∀k,h0! ((j0! f ec!).set a (cC! f)) k=aj! a k (cC! f) (aj! f k ec! dR!):=λk=>by rw[uX _ _ _ _ (by simp;lia),uX _ _ _ _ fX]
 obtain⟨y7,y8,e⟩:=zqX (L:=(j0! f ec!).set a (cC! f)) hn ha (by simp[hl]) (λr cS=>by
   rcases _z cS with h | rfl
   ·rcases _z h with h | rfl;·exact hr r h
    ·exact o0! _ (by lia)
   ·exact o0! _ fX) (o0! _ fX) pH (b2 f pG fl) (ah! (by
   obtain⟨j,rfl⟩:=zdd hx;exact b1 f fl j)) (oA! (by
   rw[at2,eg,_o (by lia)];split;·exact b2 a ak! ha
   ·exact b2 k (by lia) h2));exact⟨_,_,_,y7,y8,e⟩
theorem zgH(hn:n<=4) (ha:a<n) (hl:aA!=n) (hr:∀r∈L,aE!=n+n):∃b,tOf (eOp dNe (iR! (zP (e4! N! (f7! 3))) (ad! 3) 1 (eC! (bl! 0) B!) r!) (qt zj)) (gh! x6) bf!=gD! b/\(b=d! ↔ ∃k,a<k/\k<n/\dl!≠0):=by
 have sl:eSl N! (yD (f7! 3)) zE (gh! x6) bf!=gD! (W! (f8! (pM! (a+1)))):=by
  have e1:yD (f7! 3) (gh! x6) bf!=gD! (b! (ab! (a+1))):=by
   unfold yD;rw[eZ! (qr ..),zbz];rfl
  simp only[eSl,vr (ρ:=gh! x6) (i:=2) rfl,e1,Rb,zE,dSl,Dd.listOf,xP];rw[z66,_aT]
 have c:=xK (mp:=ad! 3) (fg:=yg 1) (ft:=eC! (bl! 0) B!) (fe:=r!) rL rL (λr=>ci! (cT! a) 0) (λr=>[e! a,hn! r]) (pM! (a+1)) (jA sl) (λr _=>rfl) (λr cS=>by
   have e:hw! r! q! [e! a,hn! r] bf!=gD! (c! (cT! a)):=by rw[eZ! p!,znL (by rw[hr r (_aC cS)];lia)]
   rw[vz];rw[op2 e (qr ..),z5r]) (λr _ _=>p!) (by simp[cap];lia);have ok:okD 2 (W! (f8! (lj! (pM! (a+1)) (λr=>ci! (cT! a) 0))))=d!:=by
  simp only[okD,_P];intro x hx;obtain⟨r,_,rfl⟩:=ho!;simp[rL,okD,_P]
 refine bM! (vz (by rw[op2 c (by simp;rfl)];exact ne_nil ok (by decide) _)) ?_;simp only[List.isEmpty_map];constructor
 ·intro h;cases q:lj! (pM! (a+1)) (λr=>ci! (cT! a) 0) with
  | nil=>rw[q]at h;simp at h | cons r w=>
   have m:r∈lj! (pM! (a+1)) (λr=>ci! (cT! a) 0):=by rw[q];exact in!
   obtain⟨m1,m2⟩:=_bq.mp m;obtain⟨i,hi,e⟩:=gM! m1;rw[List.getElem_drop]at e;have pI:a+1+i<aA!:=by simp at hi;lia
   refine⟨a+1+i,by lia,by lia,?_⟩;rw[at2,_n (l:=L),_b pI];show bd! (L[a+1+i]) a≠0;rw[e];exact _c8 m2
 ·rintro⟨k,h1,h2,h3⟩;have hk:k<aA!:=by lia
  have m:dR!∈lj! (pM! (a+1)) (λr=>ci! (cT! a) 0):=by
   refine _bq.mpr ⟨?_,_aJ h3⟩;rw[_n,_b hk];exact _r.mpr ⟨k-(a+1),by simp;lia,by rw[List.getElem_drop];simp only[_aE];congr 1;lia⟩
  cases q:lj! (pM! (a+1)) (λr=>ci! (cT! a) 0) with
  | nil=>rw[q]at m;simp at m | cons=>rfl
theorem zjB(hn:n<=4)(ha:a<n):∀{m:Nat}{L L':Tb}{x4 x5 x6 x7 x8:Option D},aA!=n->(∀r∈L,aE!=n+n)->Lr (z9q n a) n a m L L'->∃y4 y5 y6 y7 y8,qP (gh! x6) bf!=K! (ds! t n (e! a) y4 y5 y6 y7 y8) (s++[ry!]):=by
 intro m L L' x4 x5 x6 x7 x8 hl hr lr;have key:∃y4 y5 y6 y7 y8,vw (eC! (iR! (zP (e4! N! (f7! 3))) (ad! 3) 1 (eC! (bl! 0) B!) r!) (qt zj)) (zA vO (du! vQ vZ vT uf vj)) (m+1) (gh! x6) bf!=K! (ds! t n (e! a) y4 y5 y6 y7 y8) (s++[ry!]):=by induction lr generalizing x4 x5 x6 x7 x8 with
  | @done L h=>
   obtain⟨b,e,hb⟩:=zgH hn ha hl hr;have:b=t!:=by cases b with
    | false=>rfl | true=>obtain⟨k,h1,h2,h3⟩:=hb.mp rfl;exact cN! (h k h1 h2) h3
   subst this;refine⟨x4,x5,x6,x7,x8,?_⟩;simp only[vw];rw[e];rfl | @step m L L' h r l M b1 b2 q ih=>
   obtain⟨b,e,hb⟩:=zgH hn ha hl hr;have := hb.mpr h;subst this;obtain⟨z4,z5,z6,z7,z8,p⟩:=zoL hn ha hl hr h b1 b2;have len:v! (pas n a (z9q n a L) L)=n:=by simp[pas,z30,hl]
   have cw:∀r∈pas n a (z9q n a L) L,aE!=n+n:=by
    have all:∀j,a+1+j<=n->∀r∈elim a (cC! (z9q n a L)) j ((j0! (z9q n a L) ec!).set a (cC! (z9q n a L))),aE!=n+n:=by
     have hf:v! (cC! (z9q n a L))=n+n:=o0! _ (by have:=M.lt;lia);intro j;induction j with
     | zero=>
      intro _ r cS;rcases _z cS with h | rfl
      ·rcases _z h with h | rfl;·exact hr r h
       ·exact o0! _ (by lia)
      ·exact hf | succ j ih=>
      intro hj r cS;simp only[elim]at cS;rcases _z cS with h | rfl;·exact ih (by lia) r h
      ·have:=ih (by lia) _ (getD_mem (k:=a+1+j) (by rw[z30];simp;lia));rw[z5X (by lia)];exact this
    exact all _ (by lia)
   obtain⟨y4,y5,y6,y7,y8,w⟩:=ih len cw;refine⟨y4,y5,y6,y7,y8,?_⟩;rw[vw,e,Rb];simp only[_v];rw[p,Rb];exact w
 obtain⟨y4,y5,y6,y7,y8,w⟩:=key;exact⟨y4,y5,y6,y7,y8,by rw[qP];exact z3m w (by simp)⟩
end
def bt:Nat->Nat
 | 0=>106 | 1=>426 | 2=>1706 | _=>6826
theorem zj1{a n:Nat}(hn:n<=4)(ha:a<n):(al! (a+1<n) (4*bt a+2) (bt a))<=bt (a+1):=by rcases (show a=0\/a=1\/a=2\/a=3 by lia) with rfl | rfl | rfl | rfl<;>split<;>simp only[bt]<;>lia
section
variable {t:D}{n:Nat}{T L:Tb}{s:Sto}{x3 x4 x5 x6 x7 x8:fG!}
theorem zun(hn:ba!) (g:Gd n T L) (hb:∀i,i<n->∀j,dJ! L i j<2 ^ 106):∃L' y3 y4 y5 y6 y7 y8,z07 (ds! t n x3 x4 x5 x6 x7 x8) bf!=K! (ds! t n y3 y4 y5 y6 y7 y8) (s++[ry!])/\Bk n T L' n/\∀i,i<n->∀j,dJ! L' i j<2 ^ 6826:=by
 have n4:n<=4:=by unfold Sz at hn;lia
 obtain⟨ρ',s',e,L',y3,y4,y5,y6,y7,y8,e1,e2,g',z',b'⟩:=z1F (all:=yt n) (body:=eA! (yg 3 d ρ s) (qP ρ' s')) (λa ρ S=>∃L' y3 y4 y5 y6 y7 y8,ρ=ds! t n y3 y4 y5 y6 y7 y8/\S=s++[ry!]/\Gd n T L'/\Zr n a L'/\∀i,i<n->∀j,dJ! L' i j<2 ^ bt a) (yt n) 0 (λa x hx ρ S hI=>by
   obtain⟨L1,y3,y4,y5,y6,y7,y8,rfl,rfl,g1,z1,b1⟩:=hI;obtain⟨ha,rfl⟩:=z3r hx;rw[_aq]at z1 b1;rw[_aq];have hf:∀L:Tb,aA!=n->(∃k,a<k/\k<n/\dl!≠0)->Mn n a (z9q n a L) L:=λL _ h=>by
    obtain⟨_,_,M⟩:=zif (n:=n) (a:=a) (L:=L) n4 h;exact M
   have fin:∃m L2,Lr (z9q n a) n a m L1 L2/\Gd n T L2/\Zr n (a+1) L2/\∀i,i<n->∀j,dJ! L2 i j<2 ^ bt (a+1):=by
    by_cases h3:a+1<n
    ·obtain⟨m,L2,lr,g2,z2,b2⟩:=column (f:=z9q n a) hn ha hf g1 z1 b1 (by rcases (show a=0\/a=1\/a=2 by lia) with rfl | rfl | rfl<;>decide);exact⟨m,L2,lr,g2,z2,lF! (_j (b2 i hi j) (pw (zj1 n4 ha)))⟩
    ·have z:∀k,a<k->k<n->at2 L1 k a=0:=oA! (by lia)
     refine⟨0,L1,.done z,g1,z1.up z,lF! (_j (b1 i hi j) (pw ?_))⟩;have:=zj1 n4 ha;rw[_o h3]at this;exact this
   obtain⟨m,L2,lr,g2,z2,b2⟩:=fin;obtain⟨w4,w5,w6,w7,w8,e⟩:=zjB (t:=t) (s:=s) (x4:=y4) (x5:=y5) (x6:=y6) (x7:=y7) (x8:=y8) n4 ha g1.len g1.row lr;exact⟨_,_,by rw[ua,Rb];exact e,L2,_,w4,w5,w6,w7,w8,rfl,rfl,g2,z2,b2⟩) (ds! t n x3 x4 x5 x6 x7 x8) bf! ⟨L,x3,x4,x5,x6,x7,x8,rfl,rfl,g,λc hc=>by lia,hb⟩;have ln:v! (yt n)=n:=by simp[yt]
 rw[ln,_aq]at z' b';refine⟨L',y3,y4,y5,y6,y7,y8,?_,g'.bk hn z',lF! (_j (b' i hi j) (pw ?_))⟩
 ·have hi:jW (b6! 1) (ds! t n x3 x4 x5 x6 x7 x8) bf!=gD! (yt n,[]):=by
   simp only[zeT,zr,zK,vr (ρ:=ds! t n x3 x4 x5 x6 x7 x8) (i:=1) (d:=c! n) rfl,Rb];rw[_h (by lia),_T]
  rw[z07,jP,hi,Rb];exact rI! (by rw[e1,e2])
 ·rcases hn with rfl | rfl | rfl<;>decide
theorem zhD(d:Int)(r:h!):(ni! (mM! (x*d)))=iL (ni! (λx=>x*d)):=by simp[iL]
theorem zpQ{a:Nat} (ha:a<aA!) (hr:a<v! ec!) (hl:v! ec!<=100) (b1:∀j,dJ! L a j<2 ^ (2 ^ 16)):qd (gh! x6) bf!=K! (gh! x6) (s++[f8! (scl a L)]):=by
 have c:=comp_map (fi:=zP (ce! 2 3)) (mp:=fm! 3 2) (fg:=yg 2) (fe:=ej! z8z 2 (cl! (bl! 0) q!)) (ρ:=gh! x6) D.int (mM! (x*b9! a)) (λx=>[e! a,Q!,e! x]) ec! (jA (by rw[eZ! p!,jz (xP s _) ha];rfl)) (λx _=>rfl) (ah! (by
   have e:=el2 (ρ:=[e! a,Q!,e! x]) (a:=1) (b:=0) (c:=0) (xP s _) rfl rfl rfl ha hr;obtain⟨j,rfl⟩:=zdd hx;rw[eZ! e];exact zhy (b1 j) (b1 a) _)) (_Z hl (by decide));rw[zhD]at c;rw[qd,z2W (d:=rL ((ec!).map λx=>x*b9! a)) c p! p! (xP s _) (by lia) (by simp;lia) (z3R _),z6E,_T,<- _bb];rfl
theorem zqN{a:Nat} (hn:n<=4) (ha:a<n) (hl:aA!=n) (hr:∀r∈L,aE!=n+n) (b1:∀i,i<n->∀j,dJ! L i j<2 ^ (2 ^ 16)): ∃y6 y7 y8,uQ (gh! x6) bf!=K! (hB! y6 y7 y8) (s++[f8! (bk a a L)]):=by
 obtain⟨ρ',s',e,y6,y7,y8,e1,e2⟩:=z1F (body:=eA! (yg 7 d ρ s) ((a3! qa qf uO) ρ' s')) (λj ρ S=>∃y6 y7 y8,ρ=hB! y6 y7 y8/\S=s++[f8! (bk a j L)]) (yt a) 0 (λj x hx ρ S hI=>by
   obtain⟨y6,y7,y8,rfl,rfl⟩:=hI;obtain⟨hj,rfl⟩:=z3r hx;rw[_aq];have len:v! (bk a j L)=n:=by rw[z8X,hl]
   have get:=zhG (a:=a) (L:=L) j (by lia) (by lia);have ga:h0! (bk a j L) a=ec!:=by rw[get,_o (by lia)]
   have gj:h0! (bk a j L) j=cC! j:=by rw[get,_o (by lia)]
   have ej:at2 (bk a j L) j a=b9! j:=by rw[at2,gj];rfl
   have la:=hr _ (getD_mem (k:=a) (by lia));have lj:=hr _ (getD_mem (k:=j) (by lia));have f1:qa (hB! y6 aY! y8) (s++[f8! (bk a j L)])=K! (hB! (hn! ec!) aY! y8) (s++[f8! (bk a j L)]):=by
    rw[qa,zR,eZ! p!,jz (xP s _) (by lia),ga];rfl
   have f2:qf (hB! (hn! ec!) aY! y8) (s++[f8! (bk a j L)])=K! (hB! (hn! ec!) aY! (e! (b9! j))) (s++[f8! (bk a j L)]):=by
    have e:=el2 (s:=s++[f8! (bk a j L)]) (ρ:=hB! (hn! ec!) aY! y8) (a:=2) (b:=7) (c:=3) (xP s _) rfl rfl rfl (by lia) (by rw[gj];lia);rw[qf,zR,e,ej];rfl
   have f3:uO (hB! (hn! ec!) aY! (e! (b9! j))) (s++[f8! (bk a j L)])=K! (hB! (hn! ec!) aY! (e! (b9! j))) (s++[f8! (bk a (j+1) L)]):=by
    have c:=zel (s:=s++[f8! (bk a j L)]) (ρ:=hB! (hn! ec!) aY! (e! (b9! j))) (xP s _) rfl rfl rfl rfl (by lia) (by lia) (b1 j (by lia) a) (ah! (by
     obtain⟨i,rfl⟩:=zdd hx;exact b1 a ha i));rw[uO,z2W c p! p! (xP s _) (by lia) (by simp;lia) (z3R _),z6E,_T,<- _bb];simp only[bk,ga,ej]
   refine⟨_,_,?_,hn! ec!,aY!,e! (b9! j),rfl,rfl⟩;rw[ua,Rb];exact iY! f1 (iY! f2 f3)) (gh! x6) bf! (bo! x6 x7 x8 rfl);have ln:v! (yt a)=a:=by simp[yt]
 refine⟨y6,y7,y8,?_⟩;have hi:jW (b6! 3) (gh! x6) bf!=gD! (yt a,[]):=by
  simp only[zeT,zr,zK,vr (ρ:=gh! x6) (i:=3) (d:=f9!) rfl,Rb];rw[_h (by lia),_T]
 rw[uQ,jP,hi,Rb];refine rI! ?_;rw[e1,e2,ln,_aq]
end
def bu:Nat->Nat
 | 0=>6826 | j+1=>2*bu j+1
theorem zfR{i n j:Nat}{x:D}(h:G! (ui (j! i-1) n) j x)(hi:n<=i):j<n/\x=c! (ab! (i-1-j)):=by
 have hj:j<n:=by have:=cV! h;simpa[ui] using this
 refine aw! hj ?_;simp only[ui,_C,_aF hj,_ah,_y]at h;rw[<- h];congr 1;lia
section
variable {t:D}{n:Nat}{T L:Tb}{s:Sto}{x3 x4 x5 x6 x7 x8:fG!}
theorem zqn(hn:ba!) (g:Bk n T L n) (hb:∀i,i<n->∀j,dJ! L i j<2 ^ 6826):∃L' y3 y4 y5 y6 y7 y8,jX (ds! t n x3 x4 x5 x6 x7 x8) bf!=K! (ds! t n y3 y4 y5 y6 y7 y8) (s++[ry!])/\Bk n T L' 0:=by
 have n4:n<=4/\2<=n:=by unfold Sz at hn;lia
 obtain⟨ρ',s',e,L',y3,y4,y5,y6,y7,y8,e1,e2,g',b'⟩:=z1F (all:=ui (j! n-1) n) (body:=eA! (yg 3 d ρ s) ((zA qd uQ) ρ' s')) (λj ρ S=>∃L' y3 y4 y5 y6 y7 y8,ρ=ds! t n y3 y4 y5 y6 y7 y8/\S=s++[ry!]/\Bk n T L' (n-j)/\∀i,i<n->∀k,dJ! L' i k<2 ^ bu j) (ui (j! n-1) n) 0 (λj x hx ρ S hI=>by
   obtain⟨L1,y3,y4,y5,y6,y7,y8,rfl,rfl,g1,b1⟩:=hI;obtain⟨hj,rfl⟩:=zfR hx ak!;rw[_aq]at g1 b1;rw[_aq];have ha:n-1-j<n:=by lia
   rw[show n-j=n-1-j+1 by lia]at g1;have wide:bu j<=2 ^ 16:=by rcases (show j=0\/j=1\/j=2\/j=3 by lia) with rfl | rfl | rfl | rfl<;>decide
   have bw:∀i,i<n->∀k,dJ! L1 i k<2 ^ (2 ^ 16):=λi hi k=>_j (b1 i hi k) (pw wide);generalize ea:n-1-j=a at *;have la:=g1.rl ha;have f1:=zpQ (t:=t) (n:=n) (s:=s) (x4:=y4) (x5:=y5) (x6:=y6) (x7:=y7) (x8:=y8) (L:=L1) (a:=a) (by rw[g1.len];exact ha) (by lia) (by lia) (bw a ha);have sl:v! (Pb.scl a L1)=n:=by simp[Pb.scl,g1.len]
   have sr:∀r∈Pb.scl a L1,aE!=n+n:=cO! (by
    rcases _z hr with h | rfl;·exact g1.row r h
    ·rw[_X,la])
   have d1:=g1.dia a (by lia);obtain⟨z6,z7,z8,f2⟩:=zqN (t:=t) (n:=n) (s:=s) (x4:=y4) (x5:=y5) (x6:=y6) (x7:=y7) (x8:=y8) (L:=Pb.scl a L1) (a:=a) n4.1 ha sl sr (λi hi k=>by
    rw[zlB g1 ha];split;·rw[_aA,d1,Nat.mul_one];exact bw a ha k
    ·exact bw i hi k);refine⟨_,_,by rw[ua,Rb];exact iY! f1 f2,bk a a (Pb.scl a L1),_,y4,y5,z6,z7,z8,rfl,rfl,?_,znf g1 ha b1⟩;rw[show n-(j+1)=a by lia];exact g1.step ha) (ds! t n x3 x4 x5 x6 x7 x8) bf! ⟨L,x3,x4,x5,x6,x7,x8,rfl,rfl,g,hb⟩;have ln:v! (ui (j! n-1) n)=n:=by simp[ui]
 rw[ln,_aq,_dG]at g';refine⟨L',y3,y4,y5,y6,y7,y8,?_,g'⟩;have hi:zgC (zb (ks! 1 ae!) (cd! d5! d5!)) (ds! t n x3 x4 x5 x6 x7 x8) bf!=gD! (ui (j! n-1) n,[]):=by
  have c1:eOp z8L r! ae! (ds! t n x3 x4 x5 x6 x7 x8) bf!=gD! (c! (j! n-1)):=by rw[op2 (x:=c! n) (y:=c! 1) p! (qr ..),zln]
  have c2:z2A ae! (ds! t n x3 x4 x5 x6 x7 x8) bf!=gD! (c! (-1)):=rfl;simp only[zo2,zr,zK,c1,c2,Rb];rw[_h (by lia)];congr 3;lia
 rw[jX,jP,hi,Rb];exact rI! (by rw[e1,e2])
theorem zla(T:Tb):∀U:Tb,z4I nz! (U.map rD)=kb! T U (iT! [rD p.1,rD p.2]):=by induction T with
 | nil=>intro U;simp[z4I] | cons a T ih=>
  intro U;cases U with
  | nil=>simp[z4I] | cons b U=>simp only[_p,z4I,_bp,ih U]
theorem zhO(T:Tb):∀U:Tb,kb! T U (λp=>rL (p.1++p.2))=f8! (ot! (λa b=>a++b) T U):=by induction T with
 | nil=>intro U;simp | cons a T ih=>
  intro U;cases U with
  | nil=>simp | cons b U=>simp only[_bp,_p,_at,ih U]
theorem zsy(hn:ba!) (hT:g5!):z0t [ch! T,aC!,a!,a!,a!,a!,a!,a!,a!] s=K! (ds! (tD T) n a! a! a! a! a! a!) (s++[f8! (lay T)]):=by
 have n4:n<=4:=by unfold Sz at hn;lia
 have pl:zg Pg.xE (b6! 1) [ch! T,aC!,a!,a!,a!,a!,a!,a!,a!] s=g4! b0!:=by rw[g0!];exact zeU n4 s
 have hi:z54 (cd! q! (bN! Pg.xE 1)) [ch! T,aC!,a!,a!,a!,a!,a!,a!,a!] s=i! (kb! T b0! (iT! [rD p.1,rD p.2]),[]):=by
  simp only[z54,zr,vr (ρ:=[ch! T,aC!,a!,a!,a!,a!,a!,a!,a!]) (i:=0) rfl,pl,Rb];show eN! (z4I nz! (eB! b0!),[]++[]) s=_;rw[zla];rfl
 have c:=z7L (mp:=iW!) (fg:=yT 0 1) (fe:=bc! (bq! z2t) (bN! z2t 1)) (λp:List Int×List Int=>gN! [rD p.1,rD p.2]) (λp=>rL (p.1++p.2)) (λp=>[bu! p.1,bu! p.2]) (pA! T b0!) hi (λp _=>rfl) (bs! (by
   have e1:zg z2t (b6! 0) [bu! p.1,bu! p.2] s=i! (rL p.1):=by rw[g0!];rfl
   have e2:zg z2t (b6! 1) [bu! p.1,bu! p.2] s=i! (rL p.2):=by rw[g0!];rfl
   obtain⟨m1,m2⟩:=l2!;have l1:=hT.row _ m1;have l2:=(zaI n).row _ m2;rw[op2 e1 e2];simp only[rL,z70];rw[_h (by simp[cap];lia)];simp[iL])) (by simp[cap,hT.len];lia) (by rw[zhO];exact zeP _);rw[zhO]at c;rw[z0t,zR,c];simp only[lay,hT.len];rfl
theorem zqp(r:h!)(n:Nat)(s:Sto):dSl (rL r) (b! (j! n)) a! s=i! (rL mK!):=by
 simp only[rL,dSl,Dd.listOf];rw[z66];simp[_aT]
theorem zr1(hl:aA!=n) (hn:n<=4):jZ (ds! t n x3 x4 x5 x6 x7 x8) bf!=gD! (.rt (tD (sB! n))):=by
 have hi:zP N! (ds! t n x3 x4 x5 x6 x7 x8) bf!=gD! (mn!,[(ct!,mn!)]):=by
  rw[ke,p!,Rb];simp only[xP]
 have c:=zhg (mp:=cb!) (fg:=yg 1) (fe:=aG! zV (e4! r! q!)) rL (λr=>rD mK!) (λr=>[aC!,hn! r]) L hi (bs! (by
   simp only[_bl]at hp;subst hp;exact xP s _)) (λr _=>rfl) (λr _=>by
   have e:eSl r! (yD q!) zE [aC!,hn! r] bf!=gD! (rL mK!):=by
    have e1:yD q! [aC!,hn! r] bf!=gD! (b! (j! n)):=by
     unfold yD;rw[p!];rfl
    simp only[eSl,vr (ρ:=[aC!,hn! r]) (i:=1) rfl,e1,Rb,zE,zqp]
   rw[yI e];rfl) (by simp[cap,hl];lia);rw[jZ,yo,yI c];simp[zV,zW,_ak]
theorem zpi(hn:ba!) (hT:g5!) (hf:z0P T) (hb:Bd 106 T) (s:Sto):jp [tD T] s=g4! (gP! T):=by
 have n4:n<=4:=by unfold Sz at hn;lia
 have key:∀d:D,d=tD T->jp [d] s=g4! (gP! T):=hI! (by
  have st:zy [js!,fV!,nr!,eP!,"_law_good","_law_first","_law_head",cw!,mh!] [d]=[g!,a!,a!,a!,a!,a!,a!,a!,a!]:=rfl;have f1:z0a [g!,a!,a!,a!,a!,a!,a!,a!,a!] s=aW! [g!,aC!,a!,a!,a!,a!,a!,a!,a!]:=by
   rw[z0a,zR,g0!,hd];simp[yF,zW,hT.len]
  have f2:=zsy (s:=s) hn hT;rw[<- hd]at f2;obtain⟨L1,y3,y4,y5,y6,y7,y8,f3,g1,b1⟩:=zun hn (zpE hn hT hf) (zrl hn hT hb (by decide));obtain⟨L2,z3,z4,z5,z6,z7,z8,f4,g2⟩:=zqn hn g1 b1;have f5:=zr1 (t:=d) (s:=s) (x3:=z3) (x4:=z4) (x5:=z5) (x6:=z6) (x7:=z7) (x8:=z8) g2.len n4;rw[zkU hn hT hf g2]at f5;simp only[jp,z6V,Mof,z4z,st,_i,_k,_v];rw[zn f1,zn f2,zn f3,zn f4,f5];simp only;rw[z1A (z9c _)];simp)
 exact key _ rfl
end
theorem run_eq:z0k=z1w:=rfl
noncomputable def L8(a0 a1 a2 a3 a4 a5 a6 a7:fG!):Ev:=[a0,a1,a2,a3,a4,a5,a6,a7]
theorem z6R{n m:Nat}{r:Rl}{x:h!}{B:Int}{G:gr! Nat D!}{all:D!}{a0 a1 a2 a3 a6 a7:fG!}{S:Sto}(og:okG G all S)(hn:ba!)(hB:B<2 ^ m)(hm:m<=hM!)(hx:∀y∈x,y<=B){c:h!}{ls:f2!}(Rn:gf! c):∀(P:Tb)(z:Option D),oD! m c->PI n B P c x-> ∃z',yU G all (eA! (yg 5 d ρ s) (uP ρ' s')) fj! (L8 a0 a1 a2 a3 (ch! P) z a6 a7) S=K! (L8 a0 a1 a2 a3 (ch! ((jA!).foldl kr P)) z' a6 a7) S:=by induction Rn with
 | done he=>intro P z h I;exact⟨z,by simp[zN,yU,og]⟩ | @step v ls he R2 ih=>
  intro P z h I;have tb:=z1y r ei! he;have mm:=znm S hn I.tab tb (znH I hB) (zia r h he) (by lia) (by lia);rw[<- zkJ]at mm;obtain⟨z',ih⟩:=ih (kr P fR!) kt! (o8! he) (I.step r hx ei! he);refine aw! z' ?_;have body:uP (L8 a0 a1 a2 a3 (ch! P) kt! a6 a7) S=K! (L8 a0 a1 a2 a3 (ch! (kr P fR!)) kt! a6 a7) S:=by rw[uP,zR,l1!,mm];rfl
  rw[R2.tabs_cons,_p,yU,_h og,ua,Rb];simp only[L8,_E,_B]at body ih ⊢;rw[body,Rb];simp only;rw[ih];rfl
theorem z9n:∀(B:Tb)(k:Nat),z2E k (lD! rD)=(rf! k).map (iT! [c! (ab! p.2),rD p.1])
 | [],k=>rfl | x::B,k=>by simp[z2E,z9n B (k+1)]
theorem ziG:∀{z:List Int} {k j:Nat} {g:Int},j<=k->jH! (k-j)=g->0<g->(∀i,i+j≠k->jH! i=0)->(mO! (z.zipIdx j) (a5! (p.1 > 0))).map (λp=>aK! (ab! p.2))=[aK! k]
 | [],k,j,g,_,h1,h2,_=>by simp at h1;lia | x::z,k,j,g,hj,h1,h2,h3=>by
  rcases _aQ hj with q | q
  ·have x0:x=0:=by have:=h3 0 (by lia);simpa using this
   have ih:=ziG (k:=k) (j:=j+1) (by lia) (by rw[show k-j=k-(j+1)+1 by lia]at h1;simpa using h1) h2 (fb! (by have:=h3 (i+1) (by lia);simpa using this));simp only[x0];simpa using ih
  ·subst q;have x1:x=g:=by simpa using h1
   have z0:∀p∈z.zipIdx (j+1),¬ p.1 > 0:=bs! (by
    obtain⟨i,hi,e⟩:=gM! hp;have e1:p.1=jH! i:=by
     rw[<- e,List.getElem_zipIdx];simp only[List.length_zipIdx]at hi;simp[hi]
    rw[e1];have:=h3 (i+1) (by lia);simp at this;simp[this])
   have nil:mO! (z.zipIdx (j+1)) (a5! (p.1 > 0))=[]:=_bm.mpr (bs! (by simpa using z0 p hp))
   simp only[_bC,_aw,nil];rw[_h (by simp[x1];exact h2)];rfl
theorem zfg{α:b4!}(f:α->D):∀(B:List α)(j:Nat),(rf! j).map (λp=>f p.1)=lD! f
 | [],_=>rfl | x::B,j=>by simp only[_bC,_p,zfg f B (j+1)]
theorem zbb{xs:D!}{i:Int}{d:D}{s:Sto}(h0:0<=i)(h:G! xs kD! d):c5! ap! i s=i! d:=by
 have hj:=cV! h;have e:kP! i=b! kD!:=by
  unfold ixN;rw[_h h0,_h (by lia)]
 simp only[dIx,zW,atI,e,_M,h]
theorem zpz{xs:D!}{l:Nat}{d:D}{s:Sto}(hs:G! s l xs)(h:xs.getLast? = g!):c5! dP! (-1) s=i! d:=by
 rw[List.getLast?_eq_getElem?]at h;have hj:=cV! h;have e:kP! (-1)=b! (w!-1):=by
  unfold ixN;rw[_o (by lia),_h (by lia)];congr 1;lia
 simp only[dIx,zW,hs,atI,e,_M,h]
theorem zf6{α:b4!}(f:α->D):∀(B:List α)(k j:Nat),j<=k->(mO! (rf! j) (a5! (ab! p.2≠j! k))).map (λp=>f p.1)=(B.eraseIdx (k-j)).map f
 | [],k,j,_=>by simp | x::B,k,j,hj=>by
  rcases _aQ hj with q | q
  ·have ih:=zf6 f B k (j+1) (by lia);simp only[_bC,_aw];rw[_h (by simp;lia),show k-j=k-(j+1)+1 by lia];simp only[_p,List.eraseIdx_cons_succ,ih]
  ·subst q;have all:mO! (rf! (j+1)) (a5! (ab! p.2≠j! j))=rf! (j+1):=_bI.mpr (bs! (by
    have:=List.le_snd_of_mem_zipIdx hp;simp;lia))
   simp only[_bC,_aw,all,_dG,List.eraseIdx_cons_zero];rw[_o (by simp)];exact zfg f B (j+1)
section
variable {n:Nat}{v:h!}{r:Rl}{ls:f2!}{z:h!}{k:Nat}{B:Tb}{b:h!}
theorem zoG(h:jJ!) (S:Sh r n v ls z k B b) (s:Sto):qo [bv!,M!] s=bA! (rD b::eB! (B.eraseIdx k)):=by
 have n4:2<=n/\n<=4:=by have:=h.sz;unfold Sz at this;lia
 have key:hL! (d=bv!->e=M!->qo [d,e] s=bA! (rD b::eB! (B.eraseIdx k))):=q5! (by
  have st:zy [fW!,bL!,pv!,pw!,"_law_whole_here",js!,hK!,eP!] [d,e]=L8 g! l! a! a! a! a! a! a!:=rfl;have lr:=zrx r h S.run (by decide) S.len s;rw[<- hd,<- he]at lr;have f1:jU (L8 g! l! a! a! a! a! a! a!) s=K! (L8 g! l! Q! jc! a! a! a! a!) (s++[cS!,fj!]):=by
   rw[jU,zcx,l1!,run_eq,lr,Rb];rfl
  have f2:km (L8 g! l! Q! jc! a! a! a! a!) (s++[cS!,fj!])=K! (L8 g! l! Q! jc! (ch! b0!) a! a! a!) (s++[cS!,fj!]):=by
   have gl:∀s,yF [e] s=x! n:=λs=>by rw[he];simp[yF,zW,h.len]
   rw[km,zR,yI (by rw[g0!,gl]),zeU n4.2];rfl
  have g2:G! (s++[cS!,fj!]) (ct!+1) fj!:=za4.2;obtain⟨b5,lp⟩:=z6R (G:=[(ct!+1,fj!)]) (by
    intro p hp;simp only[_s,_W,_bc]at hp;subst hp;exact g2) h.sz (B:=2 ^ 104-1) (by decide) (by decide) (cs! (by have:=h.bd y hy;lia)) S.run b0! none h (PI.start ei! (cs! (by have:=h.bd y hy;lia)));have f3:kf (L8 g! l! Q! jc! (ch! b0!) a! a! a!) (s++[cS!,fj!])=K! (L8 g! l! Q! jc! (ch! hC!) b5 a! a!) (s++[cS!,fj!]):=by
   rw[kf,jP,ke,p!,Rb];simp only[g2,Rb];exact lp
  have f5:jT (L8 g! l! Q! jc! (ch! hC!) b5 a! a!) (s++[cS!,fj!])=K! (L8 g! l! Q! jc! (ch! hC!) b5 (ch! B) a!) (s++[cS!,fj!]):=by
   have mb:=zpi ju! S.ptab S.fair (λx hx y hy=>_j (S.pbd x hx y hy) (pw (by decide))) (s++[cS!,fj!]);rw[<- S.B_]at mb;rw[jT,zR,g0!,mb];rfl
  generalize hA:fj!=A at *;generalize tD hC!=P at *;have g1:G! (s++[cS!,A]) ct! cS!:=za4.1;have f6:kw (L8 g! l! Q! jc! (b! P) b5 (ch! B) a!) (s++[cS!,A])=K! (L8 g! l! Q! jc! (b! P) b5 (ch! B) bT!) (s++[cS!,A]):=by
   have el:hw! N! d5! (L8 g! l! Q! jc! (b! P) b5 (ch! B) a!) (s++[cS!,A])=.ok (rD z) (s++[cS!,A]):=by
    rw[eZ! rfl];exact zpz g1 (by rw[List.getLast?_map,S.last];rfl)
   have c:=xK (mp:=iW!) (fg:=yT 0 1) (ft:=eT! dGt r! B!) (fe:=q!) (λp:Int×Nat=>gN! (cU! (ab! p.2) p.1)) (λp=>aK! (ab! p.2)) (λp=>a5! (p.1 > 0)) (λp=>[e! (ab! p.2),e! p.1]) (z.zipIdx 0) (z9O el) (λp _=>rfl) (λp _=>by
     refine vz ?_;rw[eZ! rfl];simp) (λp _ _=>p!) (by have:=S.lot.len;simp[cap];lia);rw[ziG g8! S.zk S.g0 (fb! (S.zo i (by lia)))]at c;rw[kw,zR,op2 c rfl];rw[show c5! (W! [aK! k]) 0 (s++[cS!,A])=.ok (c! k) (s++[cS!,A]) from rfl];rfl
  have f7:ku (L8 g! l! Q! jc! (b! P) b5 (ch! B) bT!) (s++[cS!,A])=.ok (.rt (W! (rD b::eB! (B.eraseIdx k)))) (s++[cS!,A]):=by
   have e1:qt (aU! (ce! 6 7)) (L8 g! l! Q! jc! (b! P) b5 (ch! B) bT!) (s++[cS!,A])=.ok (W! [rD b]) (s++[cS!,A]):=by
    have e0:hw! (zd 6) (zd 7) (L8 g! l! Q! jc! (b! P) b5 (ch! B) bT!) (s++[cS!,A])=.ok (rD b) (s++[cS!,A]):=by
     rw[eZ! p!];exact zbb (by lia) (by rw[_C,_T,S.at_];rfl)
    simp only[z1d,zr,zK,e0,Rb];rw[_h (by simp[cap])]
   have c:=xK (fi:=z2G (b6! 6)) (mp:=dw! 7) (fg:=yT 1 2) (ft:=el! 1 q!) (fe:=N!) (ρ:=L8 g! l! Q! jc! (b! P) b5 (ch! B) bT!) (s:=s++[cS!,A]) (λp:List Int×Nat=>gN! [c! (ab! p.2),rD p.1]) (λp=>rD p.1) (λp=>a5! (ab! p.2≠j! k)) (λp=>[bT!,e! (ab! p.2),bu! p.1]) (rf! 0) (by simp only[z2G,zr,zK,vr (ρ:=L8 g! l! Q! jc! (b! P) b5 (ch! B) bT!) (i:=6) (d:=tD B) rfl,Rb,z94,tD,z9n]) (λp _=>rfl) (λp _=>by
     refine vz ?_;rw[op2 (x:=c! (ab! p.2)) (y:=c! k) p! p!,z5r]) (λp _ _=>p!) (by have:=S.tab.len;simp[cap];lia);rw[zf6 rD B k 0 g8!,Nat.sub_zero]at c;rw[ku,yo,op2 e1 c,z70,_h (by have:=S.tab.len;have:=List.length_eraseIdx_le B k;simp[cap];lia)];rfl
  simp only[qo,z6V,Mof,z3o,st,_i,_k,_v];rw[zn f1,zn f2,zn f3,zn f5,zn f6,f7];simp only;rw[z1A];·simp
  ·exact z9c (b::B.eraseIdx k))
 exact key _ _ rfl rfl
end
end aW
namespace Pg
open L2 Dd Pm
theorem z9M{n m:Nat}{v:h!}(h:fo!):bE! b3!<2 ^ m/\0<b3!:=by
 obtain⟨x,hx,x0⟩:=h.pos;have d:=z5W x hx;have le:=Int.le_of_dvd x0 d;have nn:=zad v;have a:=h.abs x hx;have p:b3!≠0:=λq=>by rw[q]at d;have:=Int.zero_dvd.mp d;omega
 omega
section
variable {n:Nat}{v:h!}{r:Rl}{ls:f2!}{z:h!}{k:Nat}{B:Tb}{b:h!}
theorem Sh.b_ok(S:Sh r n v ls z k B b):pl!=n/\(∀y∈b,y.natAbs<2 ^ 318)/\eq! b=b3!:=by
 have hb:b∈B:=_x S.at_;refine⟨S.tab.row b hb,S.bd b hb,?_⟩;have e:bd! (mv B v) k=eq! b:=by simp[mv,List.getD,S.at_]
 rw[<- e,S.mvB,S.zk]
noncomputable def zeY(v:h!):h!:=v.map λx=>x / b3!
end
end Pg
namespace aW
open L2 Dd Pm Pg Pn Po Pb
theorem zeZ(s:Sto):vk [.exc hc!] s=i! (aq! ai!):=by kernel_rfl
theorem zgF(s:Sto):vk [.exc hd!] s=i! (aq! cv!):=by kernel_rfl
theorem ziw{w:Int}{d e:D}{s s':Sto}{r:D}(h:xU [e! w,g!,l!,a!] s=bj! (.rt r)):zT [c! w,d,e] s=bj! r:=by
 have st:zy ["_law_way",eh!,d0!,pH!] [c! w,d,e]=fl! (c! w) d e:=rfl;simp only[zT,Mof,z19,st,_i,_k,_v,z02,zqr];rw[h]
theorem zdT{w:Int}{d e:D}{s:Sto}{c x:Str}(hc:c∈rsX)(hk:vk [.exc c] s=i! bY!)(h:xU [e! w,g!,l!,a!] s=dQ!):zT [c! w,d,e] s=i! bY!:=by
 have st:zy ["_law_way",eh!,d0!,pH!] [c! w,d,e]=fl! (c! w) d e:=rfl;have e':z01 (gX! (oE! 4) 3 (.exc c)) s=i! (.rt bY!):=by rw[z01,yo,yI (by rfl),hk];rfl
 simp only[zT,Mof,z19,st,_i,_k,_v,z02,zqr];rw[h];simp only[_h hc,Nat.reduceAdd];rw[e']
theorem zqI{w:Int}{d e:D}{s:Sto}{x:Str}{X:Mir}(h0:c5! (W! [.fn m7!,.fn m6!]) w s=i! (.fn x))(hx:r6! [(m7!,uj),(m6!,wI)]=b! X):xU [e! w,g!,l!,a!] s=A! (X [d,e] s) (λr s1=>P! (.rt r)):=by
 have c2:ez! 2<=cap:=by decide
 rw[xU,yo];simp only[ziL,yH,z1d,zr,zK,qr,yh,_c,_d,Rb,_i,_k,_h c2,h0,hx]
theorem ziz{d e:D}{s:Sto}:xU (fd! cL! d l!) s=A! (uj [d,e] s) (λr s1=>P! (.rt r)):=zqI rfl rfl
theorem zlU{d e:D}{s:Sto}:xU [e! 1,g!,l!,a!] s=A! (wI [d,e] s) (λr s1=>P! (.rt r)):=zqI rfl rfl
theorem ztC{d e:D}{s:Sto}{c:Str}(h:vE [d] s=dQ!):wI [d,e] s=dQ!:=by simp[wI,kZ,z1P,zy,h]
theorem znA{d e:D}{s:Sto}{c:Str}(h:zB [d,e] s=dQ!):xi [d,e] s=dQ!:=by
 have:=zg9 h;simp[xi,kZ,ky,zy,this]
theorem zgc{d e:D}{s:Sto}{c:Str}(h:zB [d,e] s=dQ!):qm [d,e] s=dQ!:=by
 have:=znA h;simp[qm,kZ,z2j,zy,this]
theorem z8Z{d e:D}{s:Sto}{c:Str}(h:zB [d,e] s=dQ!):uj [d,e] s=dQ!:=by
 have:=zgc h;simp[uj,kZ,z2n,zy,this]
theorem zaz:LeM xj wI:=mm! (ri! (rk! z2r) jv! (ri! LeS.rfl (r0! jv!) LeS.rfl))
theorem za8:LeM vI z14:=mm! (LeS.seq (rk! za6) jv!)
theorem z8w:LeM qT qR:=mm! (LeS.seq (LeS.set (LeE.call za8)) (ri! (r0! LeS.fNo) jv! jv!))
section
variable {n:Nat}{v:h!}{r:Rl}{ls:f2!}{z:h!}{k:Nat}{B:Tb}{b:h!}
theorem zbf(h:jJ!)(S:Sh r n v ls z k B b)(s:Sto):xi [bv!,M!] s=g4! B:=by
 have w1:=zoM r h S.run (by decide) S.len s;have w2:=z8w.ok (z9A s ju! S.ptab S.pbd (by decide) S.fair);rw[<- S.B_]at w2;have key:∀d e P T:D,xn [d,e] s=i! P->qR [P] s=i! T->xi [d,e] s=i! T:=λd e P T a1 a2=>by simp[xi,kZ,ky,zy,a1,a2]
 exact key _ _ _ _ w1 w2
theorem zin(h:jJ!) (S:Sh r n v ls z k B b) (s:Sto):qm [bv!,M!] s=i! (rD b):=by
 have w1:=zbf h S s;have w2:=ze0 h S s;have key:hL! (xi [d,e] s=g4! B->(∀x∈B,wd [rD x,e] s=x! (eq! x))->qm [d,e] s=i! (rD b)):=λd e a1 a2=>by
  have st:zy dg! [d,e]=hv!:=rfl;have c:=xK (fi:=zP (cM! xi)) (mp:=cb!) (fg:=yg 1) (ft:=eC! (gu! wd 1 0) B!) (fe:=r!) (ρ:=hv!) rD rD (λx=>ci! (eq! x) 0) (λx=>[l!,bu! x]) B (qV (by rw[l1!];exact a1)) (λx _=>by simp) (ah! (by
    refine vz ?_;rw[op2 (by rw[l1!];exact a2 x hx) rfl,z5r])) (λx _ _=>p!) (by have:=S.tab.len;have:=h.sz;unfold Sz at this;simp[cap];lia);rw[S.fn]at c;simp only[qm,kZ,z2j,st,z51,yo];rw[op2 c rfl];have:c5! (W! [rD b]) 0 s=i! (rD b):=kv! (by decide);rw[show List.map rD [b]=[rD b] from rfl,this];rfl
 exact key _ _ w1 w2
theorem zj0(h:jJ!) (S:Sh r n v ls z k B b) (s:Sto):uj [bv!,M!] s=a7! [c! b3!,rD (zeY v),rD b]:=by
 have w1:=zin h S s;have w2 := ziO.ok (zkF ei! s);have gb:=z9M h;have key:∀d e f:D,e=M!->qm [d,e] s=i! f->z62 [e] s=x! b3!->uj [d,e] s=a7! [c! b3!,rD (zeY v),f]:=λd e f he a1 a2=>by
  have st:zy [cv!,ai!,cu!,ia!] [d,e]=fd! d e a!:=rfl;simp only[uj,kZ,z2n,st,_i,_k,_v];rw[zn (ρ':=fl! d e f) (s':=s) (by simp[a1])];rw[zn (ρ':=[g!,l!,b! f,i1!]) (s':=s) (by simp[a2])];have c:=comp_map (fi:=zP r!) (mp:=ad! 3) (fg:=yg 1) (fe:=ej! z3Y 1 q!) (ρ:=[g!,l!,b! f,i1!]) (s:=s) D.int (mM! (x / b3!)) (λx=>[i1!,e! x]) v (qV (by rw[vr (d:=e) rfl,he])) (λx _=>by simp) (ah! (by rw[op2 (x:=c! x) (y:=c! b3!) p! p!,zak,bP! gb.2 (zrK gb.1 (by decide))])) (by have:=h.toLot.le4;simp[cap];lia);have c2:v.map (mM! (x / b3!))=iL (zeY v):=by simp[zeY,_L]
  rw[c2]at c;have e3:z2x [g!,l!,b! f,i1!] s=i! (.rt (ck! b3! (rD (zeY v)) f)):=by
   simp only[z2x,yo];rw[z1L,zr,vr (d:=c! b3!) rfl,Rb,zr,yI c,z25,Rb,zr,vr (d:=f) rfl,Rb,zK];simp only[Rb];rw[_h (by simp[cap])];rfl
  rw[kj,e3]
 exact key _ _ _ rfl w1 w2
end
theorem zpC{n:Nat}{v:h!}{r:Rl}{ls:f2!}{z:h!}{k:Nat}{B:Tb}{b:h!}(h:jJ!)(S:Sh r n v ls z k B b)(s:Sto):zT [cL!,bv!,M!] s=a7! [c! b3!,rD (zeY v),rD b]:= ziw (by rw[ziz,zj0 h S s];rfl)
theorem zqo{d e:D}{b:Bool}{s:Sto}(hc:xj [d,e] s=aV! b):zT [c! 1,d,e] s=aV! b:= ziw (by rw[zlU,zaz.ok hc];rfl)
theorem zik{d e:D}{s:Sto}(hd:vU [d] s=cg!):zT [cL!,d,e] s=i! (aq! cv!):= zdT (by decide +kernel) (zgF s) (by rw[ziz,z8Z (zgx hd)];rfl)
theorem zjM{e:D}{s:Sto}(r:Rl)(he:yA [e] s=cg!):zT [cL!,bv!,e] s=i! (aq! ai!):= zdT (by decide +kernel) (zeZ s) (by rw[ziz,z8Z (zl3 he)];rfl)
theorem zgJ{d e:D}{s:Sto}(hd:yA [d] s=cg!):zT [c! 1,d,e] s=i! (aq! ai!):= zdT (by decide +kernel) (zeZ s) (by rw[zlU,ztC (z3l hd)];rfl)
theorem zlP{d:D} {n:Nat} (hk:Kd d) (hn:dn! n) (s:Sto):yj [d,c! n] s=aV! (vp n d):=by cases d with
 | tup ys=>
  have st:zy [ew!,mh!] [n! ys,c! n]=[b! (n! ys),aC!]:=rfl;simp only[yj,Mof,uG,st,jx,yo];by_cases h:c9!=n
  ·have c:=comp_map (fi:=cW!) (mp:=[a!]) (fg:=yg 0) (fe:=bq! xp) (ρ:=[b! (n! ys),aC!]) (s:=s) (λx=>x) (λx=>D.bl (isI x)) (λx=>[fk!]) ys (by rw[List.map_id' ys];exact qV p!) (λx _=>rfl) (ah! (by rw[g0!];exact jG (hk x hx) s)) (by simp[cap];lia);have g:=yI (M:=zgs) c;rw[za5]at g;have h':(j! c9!=n):=by lia
   have e1:eIs dr! q! [b! (n! ys),aC!] s=cj!:=by simp[gIs,tyD,isT]
   have e2:eOp dEq cX! r! [b! (n! ys),aC!] s=cj!:=by simp[yF,zW,h']
   rw[zfd,e1,Rb];simp only[_v];rw[zfd,e2,Rb];simp only[_v];rw[g];simp[vp,h]
  ·have h':¬ (j! c9!=n):=by lia
   simp[gIs,tyD,isT,yF,zW,h',vp,h] | scr _=>exact hk.elim | _=>
  have hd:=hk.ty;first
  | (exfalso;simp[tyD]at hd;done) | simp[yj,Mof,uG,zy,gIs,tyD,isT,vp]
theorem zf4{a0 a1:fG!}{all:D!}(s:Sto):∀(ps:List (Int×Int))(aD:Int)(a b:Option D),(∀p∈ps,bE! p.1<2 ^ 400/\bE! p.2<2 ^ 400)-> ∃a' b',yU [] all (eA! (yT 3 4 d ρ s) (z1v ρ' s')) (ow! (iT! (cU! p.1 p.2))) [a0,a1,e! aD,a,b] s=aW! [a0,a1,e! (aD+(ow! (λp=>p.1*p.2)).sum),a',b']
 | [],aD,a,b,_=>⟨a,b,by simp[yU,okG]⟩ | p::ps,aD,a,b,h=>by
  have hp:=h p in!;have mm:yC (c! p.1) (c! p.2) s=x! (p.1*p.2):=by
   rw[zgN,_h];exact⟨_j hp.1 (pw (by decide)),_j hp.2 (pw (by decide))⟩
  obtain⟨a',b',ih⟩:=zf4 s ps (aD+p.1*p.2) (e! p.1) (e! p.2) λq hq=>h q (.tail _ hq);refine aN! a' b' ?_;have e:z1v [a0,a1,e! aD,e! p.1,e! p.2] s=aW! [a0,a1,e! (aD+p.1*p.2),e! p.1,e! p.2]:=by simp[mm]
  have og:okG [] all s:=by intro p hp;simp at hp
  rw[_p,yU,_h og,z9y,Rb];simp only[_E,_B];rw[e,Rb];simp only[_p,_aD];rw[<- Int.add_assoc];exact ih
theorem zph{u v:h!}(hu:∀x∈u,c7! 400)(hv:∀x∈v,c7! 400)(s:Sto):kL [rD u,M!] s=x! (eq! u):=by
 have key:hL! (d=rD u->e=M!->kL [d,e] s=x! (eq! u)):=q5! (by
  have st:zy [eh!,d0!,pt!,qR!,lC!] [d,e]=jM! g! l!:=rfl;have f1:z4M (jM! g! l!) s=aW! [g!,l!,e! 0,a!,a!]:=rfl;have hi:z54 (hP! 0 1) [g!,l!,e! 0,a!,a!] s=i! (kb! u v (iT! (cU! p.1 p.2)),[]):=by
   simp only[z54,Rb];rw[hd,he];show eN! (z4I (iL u) br!,[]++[]) s=_;rw[zip_rows];rfl
  obtain⟨a',b',lp⟩:=zf4 s (pA! u v) 0 a! a! (bs! ⟨hu _ (l2!).1,hv _ (l2!).2⟩);rw[ziS,Int.zero_add]at lp;have f2:z17 [g!,l!,e! 0,a!,a!] s=aW! [g!,l!,e! (eq! u),a',b']:=by
   rw[z17,jP,hi,Rb];exact lp
  simp only[kL,Mof,z6w,st,_v];rw[zn f1,zn f2];rfl)
 exact key _ _ rfl rfl
theorem zuL{t u:FT}{ρ:Ev}{s:Sto}(h:t ρ s=kY!):fOr t u ρ s=kY!:=by rw[zai,h];rfl
theorem zrL{t u:FT}{ρ:Ev}{s:Sto}(h:t ρ s=i! t!):fOr t u ρ s=u ρ s:=by rw[zai,h];rfl
theorem zrw{t:FT}{ρ:Ev}{s:Sto}(h:t ρ s=i! t!):jJ t ρ s=kY!:=by rw[jR,h];rfl
section
variable {n:Nat}{v:h!}{s:Sto}
theorem zw6{d:D} (hv:aH!) (hk:gZ! d) (h3:∀a b c,d≠n! [a,b,c]):xj [M!,d] s=cg!:=by
 have w1:=kM hv s;have key:∀e:D,yQ [e] s=fi!->xj [e,d] s=cg!:=λe a1=>by
  have st:zy [ai!,iK!,ia!,lB!,cu!] [e,d]=jM! l! g!:=rfl;simp only[xj,Mof,z0d,st,_i,_k,_v];rw[zn (ρ':=jM! l! g!) (s':=s) (by simp[a1])];have t:fOr (fg! (mF! r!)) (eC! (hR! 1) (E! 3)) (jM! l! g!) s=kY!:=by cases d with
   | tup xs=>
    refine bb! (zrL (zdH (vz (by simp[gIs,tyD,isT])))) (vz ?_);rw[op2 (x:=c! w!) (y:=c! 3) (by rw[g0!];simp[yF,zW]) rfl,z5r];have:w!≠3:=λe=>by match xs,e with | [a,b,c],_=>exact h3 a b c rfl
    rw[_aJ (show j! w!≠3 by lia)] | _=> first
    | (exfalso;simp[tyD]at hk;done) | exact zuL (zrw (vz (by simp[gIs,tyD,isT])))
  rw[z0D (d:=fC!) (s':=s) (by rw[uY,z3a t];rfl)]
 exact key _ w1
theorem zwo{d:D} (hk:gZ! d) (h3:∀a b c,d≠n! [a,b,c]) (e:D):ye [e,d] s=cg!:=by
 have st:zy [bL!,ew!] [e,d]=[l!,g!]:=rfl;simp only[ye,Mof,wu,st,_i,_k,_v];rw[z0D (d:=fC!) (s':=s) (by
  rw[xO,z3a];·rfl
  cases d with
  | tup xs=>
   refine bb! (zrL (zdH (vz (by simp[gIs,tyD,isT])))) (zuL (vz ?_));rw[op2 (x:=c! w!) (y:=c! 3) (by rw[g0!];simp[yF,zW]) rfl,z5r];have:w!≠3:=λe=>by match xs,e with | [a,b,c],_=>exact h3 a b c rfl
   rw[_aJ (show j! w!≠3 by lia)] | _=> first
   | (exfalso;simp[tyD]at hk;done) | exact zuL (zrw (vz (by simp[gIs,tyD,isT]))))]
def zk1:eG! D
 | .int i=>dO! 0 i | _=>false
theorem zrM{a b c r:D} (hv:aH!) (h:∀e:D,e=M!->zA we uT [l!,b! (n! [a,b,c]),b! a,b! b,b! c] s=i! (.rt r)):xj [M!,n! [a,b,c]] s=i! r:=by
 have w1:=kM hv s;have key:∀e d:D,e=M!->d=n! [a,b,c]->yQ [e] s=fi!->xj [e,d] s=i! r:=λe d he hd a1=>by
  have st:zy [ai!,iK!,ia!,lB!,cu!] [e,d]=jM! l! g!:=rfl;simp only[xj,Mof,z0d,st,_i,_k,_v];rw[zn (ρ':=jM! l! g!) (s':=s) (by simp[a1])];rw[zn (ρ':=jM! l! g!) (s':=s) (by
   rw[uY,zdF];·rfl
   ·refine zrd (zdH (vz ?_)) (vz ?_);·rw[zqE,vr (d:=d) rfl,Rb,hd];simp[gIs,tyD,isT]
    ·rw[op2 (x:=c! 3) (y:=c! 3) (by rw[yI (x:=d) p!,hd];simp[yF,zW]) rfl,z5r];simp)];rw[zn (ρ':=[l!,g!,b! a,b! b,b! c]) (s':=s) (by rw[z1T,zcx,vr (d:=d) rfl,Rb,hd];simp)];have:=h e he;rw[<- hd]at this;rw[this]
 exact key _ _ rfl rfl w1
theorem zeA{a b c e d:D}{x:Bool}(he:e=M!)(hv:aH!)(ha:gZ! a)(hb:Kd b)(hx:x=!(zk1 a&&vp n b)): (i8! (bN! vL 2) (fOr (eT! dLe N! B!) (fg! (ek! zQ be! cX!)))) [l!,g!,b! a,b! b,b! c] s=i! x:=by
 subst hx;have t1:tOf (bN! vL 2) [l!,g!,b! a,b! b,b! c] s=i! (isI a):=vz (by rw[g0!];exact z7W ha s);have t3:tOf (ek! zQ be! cX!) [l!,g!,b! a,b! b,b! c] s=i! (vp n b):=by
  refine vz ?_;rw[call2 (y:=c! n) p! (by rw[g0!,he];simp[yF,zW,hv.len])];exact z2I hb (by have:=hv.le4;have:=hv.len;lia) s
 cases a with
 | int i=>
  rw[zai,jR,t1];simp only[isI,zk1,Rb,Bool.not_true,_cJ,_aU];rw[zai,vz (eZ! (qr ..) |>.trans (ztB ..)),Rb,jR,t3];by_cases h:i<=0;·rw[_aJ h,gx!,_ae (by lia)];rfl
  ·rw[_ae h,_o (by simp),_aJ (by lia)];rfl | _=>rw[zai,jR,t1];rfl
theorem zhC{c e d:D} {g:Int} {u:h!} {y:Bool} (he:e=M!) (hv:aH!) (hg:g.natAbs<2 ^ 400) (hu:∀x∈u,c7! 400) (hl:py!<=100) (hc:ud [e,c,c! g] s=aV! y): uT [l!,g!,e! g,bu! u,b! c] s=i! (.rt (.bl (a5! (nt! (λx=>g*x)=v)&&y))):=by
 have cm:=comp_map (fi:=kw!) (mp:=ad! 2) (fg:=yg 1) (fe:=fK! 0 r!) (ρ:=[l!,g!,e! g,bu! u,b! c]) (s:=s) D.int (mM! (g*x)) (λx=>[e! g,e! x]) u (qV p!) (λx _=>by simp) (ah! (by rw[op2 (x:=c! g) (y:=c! x) p! p!,z0y s hg (by decide) (hu x hx) (by decide)])) (by simp[cap];lia);have m2:nt! (mM! (g*x))=iL (nt! (λx=>g*x)):=by simp[iL]
 rw[m2]at cm;simp only[uT,yo,zfd];rw[op2 (x:=rD (nt! (λx=>g*x))) (y:=M!) (by rw[yI cm];exact z25 _ s) (by rw[p!,he]),Pr.znv,Rb];by_cases h:nt! (λx=>g*x)=v
 ·rw[_aJ h];simp only;rw[zfW p! p! p!,hc];simp
 ·rw[_ae h];rfl
theorem l_one{a b c e d:D} {x:Bool} (hd:d=n! [a,b,c]) (ha:gZ! a) (hx:x=! zk1 a): (i8! (mF! r!) (fOr (eC! (hR! 1) (E! 3)) (i8! (aG! Pg.xp (hx! 1)) (eT! dLt (hx! 1) ae!)))) [l!,g!] s=i! x:=by
 subst hx;have i0:hw! r! B! [l!,g!] s=i! a:=by rw[eZ! (qr ..),hd];exact zbb (by decide) rfl
 refine bb! (zrL (zdH (vz ?_))) (bb! (zrL (vz ?_)) ?_);·rw[zqE,vr (d:=d) rfl,Rb,hd];simp[gIs,tyD,isT]
 ·rw[op2 (x:=c! 3) (y:=c! 3) (by rw[yI (x:=d) p!,hd];simp[yF,zW]) rfl,z5r];simp
 ·have t1:tOf (aG! Pg.xp (hx! 1)) [l!,g!] s=i! (isI a):=vz (by rw[yI i0];exact jG ha s);cases a with
  | int i=>
   rw[zai,jR,t1];simp only[isI,zk1,Rb,Bool.not_true,_cJ,_aU];rw[vz (op2 i0 (qr ..) |>.trans (zsB ..))];by_cases h:i<1;·rw[_aJ h,_ae (by lia)];rfl
   ·rw[_ae h,_aJ (by lia)];rfl | _=>rw[zai,jR,t1];rfl
theorem zdR{a b c e d:D}(he:e=M!)(hd:d=n! [a,b,c])(hv:aH!)(hb:Kd b)(hc:Kd c): (i8! (ek! pI! (db! 1 ae!) cX!) (fg! (ek! pI! (db! 1 (E! 2)) cX!))) [l!,g!] s=i! (!(vp n b&&vp n c)):=by
 have n1:dn! n:=by have:=hv.le4;have:=hv.len;lia
 have i1:hw! r! ae! [l!,g!] s=i! b:=by rw[eZ! (qr ..),hd];exact zbb (by decide) rfl
 have i2:hw! r! (E! 2) [l!,g!] s=i! c:=by rw[eZ! (qr ..),hd];exact zbb (by decide) rfl
 have gl:zg yF (b6! 0) [l!,g!] s=x! n:=by rw[g0!,he];simp[yF,zW,hv.len]
 have t1:tOf (ek! pI! (db! 1 ae!) cX!) [l!,g!] s=i! (vp n b):=vz (by rw[call2 i1 gl];exact zlP hb n1 s);have t2:tOf (ek! pI! (db! 1 (E! 2)) cX!) [l!,g!] s=i! (vp n c):=vz (by rw[call2 i2 gl];exact zlP hc n1 s);rw[zai,jR,t1];simp only[Rb,jR,t2];cases vp n b<;>cases vp n c<;>rfl
theorem zj4(g:Int):∀(u v:List Int),py!=J!->((mO! (pA! u v) (ci! (p.1*g) p.2)).isEmpty=a5! (nt! (λx=>g*x)=v))
 | [],[],_=>rfl | x::u,y::v,h=>by
  have ih:=zj4 g u v (by simpa using h);simp only[_bp,_aw,_p,_aY];by_cases e:x*g=y
  ·rw[_o (by simp[e]),ih];simp[<- e,_b4]
  ·rw[_h (by simp[e])];have:¬ g*x=y:=by rw[_b4];exact e
   simp[this] | [],_::_,h=>by simp at h | _::_,[],h=>by simp at h
theorem zrC{c e d:D} {g:Int} {u:h!} (he:e=M!) (hd:d=ck! g (rD u) c) (hv:aH!) (hg:g.natAbs<2 ^ 400) (hu:∀x∈u,c7! 400) (hl:py!=J!): tOf (eOp dNe (zv (z54 (ib! (db! 1 ae!) 0)) (dw! 1) (yT 1 2) (eC! (fK! 1 (hx! 0)) N!) ae!) (qt zj)) [l!,g!] s=i! (! a5! (nt! (λx=>g*x)=v)):=by
 have i1:hw! r! ae! [l!,g!] s=i! (rD u):=by rw[eZ! (qr ..),hd];exact zbb (by decide) rfl
 have hi:z54 (ib! (db! 1 ae!) 0) [l!,g!] s=i! (kb! u v (iT! (cU! p.1 p.2)),[]):=by
  unfold z54;rw[zr,i1,Rb,zr,vr (d:=e) rfl,Rb,zK];simp only[Rb];rw[he];show eN! (z4I (iL u) br!,[]++[]) s=_;rw[zip_rows];rfl
 have cg:=xK (mp:=dw! 1) (fg:=yT 1 2) (ft:=eC! (fK! 1 (hx! 0)) N!) (fe:=ae!) (pB! (gN! (cU! p.1 p.2))) (λ_=>aK! 1) (λp=>ci! (p.1*g) p.2) (λp=>[g!,e! p.1,e! p.2]) (pA! u v) hi (λp _=>by rfl) (bs! (by
  refine vz ?_;have i0:hw! q! B! [g!,e! p.1,e! p.2] s=x! g:=by rw[eZ! (qr ..),hd];exact zbb (by decide) rfl
  rw[op2 (x:=c! (p.1*g)) (y:=c! p.2) (by rw[eZ! i0,z0y s (hu _ (l2!).1) (by decide) hg (by decide)]) p!,z5r])) (λp _ _=>rfl) (by have:=hv.le4;simp[cap];lia);have ok:okD 2 (W! ((mO! (pA! u v) (ci! (p.1*g) p.2)).map λ_=>aK! 1))=d!:=by
  simp only[okD,_P];intro x hx;obtain⟨r,_,rfl⟩:=ho!;rfl
 refine vz ?_;rw[op2 cg (by simp;rfl),ne_nil ok (by decide),List.isEmpty_map,zj4 g u v hl]
theorem ziF{m:Nat}{b:D}(hb:Bn m b)(q:vp n b=d!):∃u:List Int,b=rD u/\py!=n/\∀x∈u,c7! m:=by cases b with
 | tup ys=>
  simp only[vp,_R,_ax]at q;obtain⟨u,rfl⟩:=all_ints q.2;exact mH! u (by simpa using q.1) (ah! (hb.bd (iL u) x rfl (_t.mpr ⟨x,hx,rfl⟩))) | _=>simp[vp]at q
theorem znq{c e:D}{g:D}(he:e=M!)(hv:aH!)(hc:Kd c)(q:vp n c=t!):ud [e,c,g] s=cg!:=by
 have a1:=z2I (n:=n) hc (by have:=hv.le4;have:=hv.len;lia) s;rw[q]at a1;have gl:yF [M!] s=x! n:=by simp[yF,zW,hv.len]
 rw[<- he]at gl;simp[ud,Mof,z3N,zy,a1,gl]
theorem zmH{d:D} (hv:jJ!) (ht:Tn 400 d) (hb:∀a b c i,d=n! [a,b,c]->a=Y!->eL!<2 ^ 400) (s:Sto):∃x,xj [M!,d] s=aV! x/\ye [M!,d] s=aV! x:=by
 by_cases h3:∃a b c,d=n! [a,b,c]
 ·obtain⟨a,b,c,rfl⟩:=h3;have ka:gZ! a:=(ht.it _ rfl a in!).kd.ty;have kb:=ht.it _ rfl b (.tail _ in!);have kc:=ht.it _ rfl c (.tail _ (.tail _ in!));have ia:∀i,a=Y!->eL!<2 ^ 400:=λi e=>hb a b c i rfl e;have st:∀e d:D,zy [bL!,ew!] [e,d]=[l!,g!]:=λ_ _=>rfl;have i6:∀{r:D},(∀e d:D,e=M!->d=n! [a,b,c]->zA xc (zA xL vy) [l!,g!] s=i! (.rt r))->isI a=d!->(∀i,a=Y!->0<i)->ye [M!,n! [a,b,c]] s=i! r:=λ{r} h i1 i2=>by
   have key:∀e d:D,e=M!->d=n! [a,b,c]->ye [e,d] s=i! r:=λe d he hd=>by
    simp only[ye,Mof,wu,st,_i,_k,_v];rw[zn (ρ':=[l!,g!]) (s':=s) (by
     rw[xO,zdF];·rfl
     ·refine l_one hd ka ?_;cases a with
      | int i=>simp[zk1,i2 i rfl] | _=>simp[isI]at i1),h e d he hd]
   exact key _ _ rfl rfl
  by_cases good:isI a=d!/\∀i,a=Y!->0<i
  ·obtain⟨g1,g2⟩:=good;obtain⟨g,rfl⟩:∃g,a=c! g:=by cases a<;>first | exact cf! _ | simp[isI]at g1
   have g0:=g2 g rfl;have gb:=ia g rfl;cases qb:vp n b with
   | false=> refine⟨t!,zrM iM! λe he=>z0D (by rw[we,z3a (zeA he iM! rfl pN! (by simp[zk1,qb]))];rfl),i6 (λe d he hd=>z0D (by rw[xc,z3a (by rw[zdR he hd iM! pN! kc.kd,qb];rfl)];rfl)) rfl g2⟩ | true=>
    obtain⟨u,rfl,ul,ub⟩:=ziF kb qb;cases qc:vp n c with
    | false=> refine⟨t!,zrM iM! λe he=>iY! (by rw[we,zdF (zeA he iM! rfl pN! (by simp[zk1,qb,g0]))];rfl) (by rw[zhC (y:=false) he hv.toLot gb ub (by have:=hv.le4;have:=hv.len;lia) (znq he iM! kc.kd qc),_cO]),i6 (λe d he hd=>z0D (by rw[xc,z3a (by rw[zdR he hd iM! pN! kc.kd,qc,_cO];rfl)];rfl)) rfl g2⟩ | true=>
     obtain⟨w,rfl,wl,wb⟩:=ziF kc qc;have v4:∀x∈v,c7! 400:=ah! (_j (hv.abs x hx) (pw (by decide)));refine⟨a5! (nt! (λx=>g*x)=v)&&a5! (eq! w=g),zrM iM! λe he=>iY! (by rw[we,zdF (zeA he iM! rfl pN! (by simp[zk1,qb,g0]))];rfl) (by rw[zhC he iM! gb ub (by have:=hv.le4;have:=hv.len;lia) (by rw[he];exact zhs hv wl wb (by decide) (by decide) s)]),i6 (λe d he hd=>?_) rfl g2⟩;rw[zn (ρ':=[l!,g!]) (s':=s) (by rw[xc,zdF (by rw[zdR he hd iM! pN! kc.kd,qb,qc];rfl)];rfl)];have t5:=zrC he hd hv.toLot gb ub (by rw[ul,hv.len]) (s:=s);by_cases q:nt! (λx=>g*x)=v
     ·rw[_aJ q]at t5 ⊢;rw[zn (ρ':=[l!,g!]) (s':=s) (by rw[xL,zdF t5];rfl),vy,yo];have i0:hw! r! B! [l!,g!] s=x! g:=by rw[eZ! (qr ..),hd];exact zbb (by decide) rfl
      have i2:hw! r! (E! 2) [l!,g!] s=i! (rD w):=by rw[eZ! (qr ..),hd];exact zbb (by decide) rfl
      rw[op2 (x:=c! (eq! w)) (by rw[call2 i2 p!,he];exact zph wb v4 s) i0,zdv];rfl
     ·rw[_ae q]at t5 ⊢;rw[z0D (d:=fC!) (s':=s) (by rw[xL,z3a t5];rfl)];rfl
  ·have bad:zk1 a=t!:=by cases a with
    | int i=>
     have:¬ 0<i:=λh=>good (fc! (λj e=>by cases e;exact h));simp[zk1,this] | _=>rfl
   refine⟨t!,zrM iM! λe he=>z0D (by rw[we,z3a (zeA he iM! ka pN! (by rw[bad];rfl))];rfl),?_⟩;have key:∀e d:D,e=M!->d=n! [a,b,c]->ye [e,d] s=cg!:=λe d he hd=>by
    simp only[ye,Mof,wu,st,_i,_k,_v];rw[z0D (d:=fC!) (s':=s) (by rw[xO,z3a (l_one hd ka (by rw[bad];rfl))];rfl)]
   exact key _ _ rfl rfl
 ·have d8:∀a b c,d≠n! [a,b,c]:=λa b c e=>h3 ⟨a,b,c,e⟩;exact⟨t!,zw6 iM! ht.ty d8,zwo ht.ty d8 _⟩
end
theorem opS{o:D->D->bm!}{f g:FE}{ρ:Ev}{x y:D}{s s1 s2:Sto}(h:ay!=P! x)(h2:g ρ s1=bp! y):eOp o f g ρ s=o x y s2:=by rw[yH,h,Rb,h2,Rb]
theorem zjZ{f g k:FE}{ρ:Ev}{x y z:D}{s s1 s2 s3:Sto}(h:ay!=P! x)(h2:g ρ s1=bp! y)(h3:k ρ s2=gz! z):vG (zb f (cd! g k)) ρ s=gz! (n! [x,y,z]):=by
 rw[z1L,zr,h,Rb,zr,h2,Rb,zr,h3,Rb,zK];simp only[Rb];rw[_h (by simp[cap])]
theorem zw7{f:FE}{ρ:Ev}{x:D}{s s1:Sto}(h:ay!=P! x):qt (aU! f) ρ s=P! (W! [x]):=by
 rw[z1d,zr,h,Rb,zK];simp only[Rb];rw[_h (by simp[cap])]
theorem zvS{f g k:FE}{ρ:Ev}{x y z:D}{s s1 s2 s3:Sto}(h:ay!=P! x)(h2:g ρ s1=bp! y)(h3:k ρ s2=gz! z):qt (zb f (cd! g k)) ρ s=gz! (W! [x,y,z]):=by
 rw[z1d,zr,h,Rb,zr,h2,Rb,zr,h3,Rb,zK];simp only[Rb];rw[_h (by simp[cap])]
theorem zwk{f g k j:FE}{ρ:Ev}{x y z w:D}{s:Sto}(h:ay!=i! x)(h2:g ρ s=i! y)(h3:k ρ s=i! z)(h4:j ρ s=i! w):qt (dT! f g k j zj) ρ s=bA! [x,y,z,w]:=by
 rw[z1d,zr,h,Rb,zr,h2,Rb,zr,h3,Rb,zr,h4,Rb,zK];simp only[Rb];rw[_h (by simp[cap])]
theorem zvG{f g k j i:FE}{ρ:Ev}{x y z w t:D}{s s1:Sto}(h:ay!=i! x)(h2:g ρ s=i! y)(h3:k ρ s=i! z)(h4:j ρ s=i! w)(h5:i ρ s=P! t):qt (dT! f g k j (aU! i)) ρ s=P! (W! [x,y,z,w,t]):=by
 rw[z1d,zr,h,Rb,zr,h2,Rb,zr,h3,Rb,zr,h4,Rb,zr,h5,Rb,zK];simp only[Rb];rw[_h (by simp[cap])]
structure Th(d:D):k! where
 tn:Tn 400 d
 hd:∀a b c i,d=n! [a,b,c]->a=Y!->eL!<2 ^ 400
def It(x:D):k!:=Bn 400 x/\∀i,x=Y!->eL!<2 ^ 400
theorem It.int{m:Nat}{i:Int}(h:eL!<2 ^ m)(hm:m<=400):It Y!:=⟨oP! (by intro xs e;cases e),λj e=>by cases e;exact _j h (pw hm)⟩
theorem Bn.row4{m:Nat}{r:h!}(h:∀x∈r,c7! m)(hm:m<=400):Bn 400 (rD r):=Bn.row (ah! (_j (h x hx) (pw hm)))
theorem Bn.lst{xs:D!}:Bn 400 bH!:=oP! (by intro xs e;cases e)
theorem Th.tup{x:D}{xs:D!}(h:It x)(h2:∀y∈xs,Bn 400 y):Th (n! (x::xs)):=⟨Tn.tup (cs! (by
 rcases dE! hy with rfl | hy;·exact h.1
 ·exact h2 y hy)),λa b c i e e2=>by cases e;exact h.2 i e2⟩
theorem Th.three{a b c:D}(ha:It a)(hb:Bn 400 b)(hc:Bn 400 c):Th (n! [a,b,c]):=Th.tup ha (ah! (by
 simp only[_s,_W,_bc]at hx;rcases hx with rfl | rfl<;>assumption))
theorem Th.other{d:D}(h:gZ! d)(hn:∀xs,d≠ap!):Th d:=⟨Tn.other h hn,λa b c i e=>cN! e (hn _)⟩
theorem zr2{d:D}(h:d∈zgt):Th d:=by
 have b:=zmD (m:=400) h (by decide);have p2:2 ^ 2<=2 ^ 400:=pw (by decide);refine⟨⟨b.kd.ty,λxs e x hx=>?_⟩,λx y z i e _=>?_⟩
 ·subst e;simp[zgt]at h;rcases h with rfl | rfl | rfl | rfl | rfl;·simp at hx
  all_goals
   simp at hx;rcases hx with rfl | rfl;all_goals first | exact oP! (by intro xs e;cases e) | exact pD! (by first | (simp[tyD];done) | (simp[tyD];lia))
 ·subst e;simp[zgt]at h
section
variable {n:Nat}{v:h!}{s:Sto}{l:Nat}
theorem z8c{g:Int} {q w:h!} (h:Pot s l) (hv:∀x∈v,c7! 104) (hg:g.natAbs<2 ^ 104) (hq:∀x∈q,c7! 104) (q1:1<=q.length) (q4:q.length<=4) (hw:∀x∈w,c7! 318) (w1:1<=pF!) (w4:pF!<=4): ∃d s',yr [dP!,M!,n! [c! g,rD q,rD w]] s=bj! d/\Th d/\vc s s' l:=by
 have key:∀V T Q W:D,V=M!->Q=rD q->W=rD w->T=ck! g Q W->∃d s',yr [dP!,V,T] s=bj! d/\Th d/\vc s s' l:=λV T Q W hV hQ hW hT=>by
  have st:zy [dI!,bL!,ew!,ox!,nq!,lC!,qV!,"_law_wide",hi!] [dP!,V,T]=[F!,i3!,en!,a!,a!,a!,a!,a!,a!]:=rfl;have f1:wD [F!,i3!,en!,a!,a!,a!,a!,a!,a!] s=aW! [F!,i3!,en!,e! g,kp!,kq!,a!,a!,a!]:=by rw[wD,zcx,vr (d:=T) rfl,Rb,hT];simp
  let L9:D!:=[c! 1,c! (2*g),c! (0-g),cL!,eV!,an!,aq! "1",n! [c! g],c! (g+1)];have bg:∀i:Int,eL!<=2*g.natAbs+1->It Y!:=fb! (by
   refine It.int (m:=106) ?_ (by decide);have:2 ^ 106=4*2 ^ 104:=by decide
   lia)
  have hL:∀e∈L9,It e:=λe he=>by
   simp only[L9,_s,_W,_bc]at he;rcases he with rfl | rfl | rfl | rfl | rfl | rfl | rfl | rfl | rfl;·exact bg _ (by lia)
   ·exact bg _ (by lia)
   ·exact bg _ (by lia)
   ·exact bg _ (by lia)
   ·exact⟨oP! (by intro xs e;cases e),λi e=>by cases e⟩
   ·exact⟨oP! (by intro xs e;cases e),λi e=>by cases e⟩
   ·exact⟨oP! (by intro xs e;cases e),λi e=>by cases e⟩
   ·exact⟨pD! (by
     intro x hx;simp only[_s,_W,_bc]at hx;subst hx;exact fc! (λi e=>(bg g (by lia)).2 i e)),λi e=>by cases e⟩
   ·exact bg _ (by lia)
  let ρ1:Ev:=[F!,i3!,en!,e! g,kp!,kq!,a!,a!,a!];have g2:eOp yC (E! 2) be! ρ1 s=x! (2*g):=by rw[op2 (qr ..) p!,z0y (m:=2) (k:=104) s (by decide) (by decide) hg (by decide)]
  have l9:qt (dT! ae! (gA! (E! 2) be!) (eOp z8L B! be!) B! (dT! (eC eV!) (eC an!) (bG! "1") (vG (b6! 3)) (aU! (f7! 3)))) ρ1 s=bA! L9:=by
   rw[z1d,zr,qr,Rb,zr,g2,Rb];rfl
  obtain⟨r1,s1,e1,a1,b1,d1⟩:=vJ (f:=q!) (g:=E! 9) (far:=9) (ρ:=ρ1) h (by decide) (kO (by decide)) (by rfl) (by rfl);have mI:r1.toNat<L9.length:=by simp[L9];lia
  have mJ:=wT (xs:=L9) (d:=L9[r1.toNat]) (s:=s1) a1 (by simp[mI]);have he:=hL _ (_O mI);generalize L9[r1.toNat]=e at mJ he;have f2:wL ρ1 s=g6! [F!,i3!,en!,e! g,kp!,kq!,l!,a!,a!]:=by rw[wL,zR,opS l9 e1,mJ];rfl
  let ρ2:Ev:=[F!,i3!,en!,e! g,kp!,kq!,l!,a!,a!];have cm:=comp_map (fi:=zP (zd 5)) (mp:=[a!]) (fg:=yg 0) (fe:=gA! (E! 2) q!) (ρ:=ρ2) (s:=s1) D.int (mM! (2*x)) (λx=>[e! x]) w (qV (by rw[vr (d:=W) rfl,hW])) (λx _=>by simp) (ah! (by rw[op2 (qr ..) p!,z0y (m:=2) (k:=318) s1 (by decide) (by decide) (hw x hx) (by decide)])) (by simp[cap];lia);rw[show w.map (mM! (2*x))=iL (w.map λx=>2*x) by simp[iL]]at cm;have f3:wC ρ2 s1=g6! [F!,i3!,en!,e! g,kp!,kq!,l!,bu! (w.map λx=>2*x),a!]:=by rw[wC,zR,yI cm,z25];rfl
  have hX:∀x∈w.map (λx=>2*x),c7! 320:=ah! (by
   obtain⟨y,hy,rfl⟩:=ho!;have:=hw y hy;have:2 ^ 320=4*2 ^ 318:=by decide
   lia)
  generalize w.map (λx=>2*x)=w2 at f3 hX;obtain⟨d2,s2,e2,k2,mK⟩:=zj7 (l:=l) (v:=q) (m:=104) d1.pot hq (by decide) q1 q4;obtain⟨d3,s3,e3,k3,mL⟩:=zj7 (l:=l) (v:=w) (m:=318) mK.pot hw (by decide) w1 w4;obtain⟨o,s4,e4,ho,mM⟩:=zr4 (l:=l) mL.pot;let ρ3:Ev:=[F!,i3!,en!,e! g,kp!,kq!,l!,bu! w2,a!];have f4:wz ρ3 s1=K! [F!,i3!,en!,e! g,kp!,kq!,l!,bu! w2,bg! [n! [e,Q,W],ck! g d2 W,ck! g Q d3]] s3:=by
   rw[wz,zR,zvS (zjZ p! p! p!) (zjZ p! (by rw[l1!,hQ,e2]) p!) (zjZ p! p! (by rw[l1!,hW,e3]))];rfl
  let ρ4:Ev:=[F!,i3!,en!,e! g,kp!,kq!,l!,bu! w2,bg! [n! [e,Q,W],ck! g d2 W,ck! g Q d3]];have g4:eOp yC (E! 2) be! ρ4 s3=gz! (c! (2*g)):=by rw[op2 (qr ..) p!,z0y (m:=2) (k:=104) s3 (by decide) (by decide) hg (by decide)]
  have f5:wH ρ4 s3=K! [F!,i3!,en!,e! g,kp!,kq!,l!,bu! w2,bg! ([n! [e,Q,W],ck! g d2 W,ck! g Q d3]++[ck! g W Q,ck! 1 V W,ck! g V W,ck! (2*g) Q (rD w2)])] s3:=by
   rw[wH,zR,eZ! (zwk (zjZ p! p! p!) (zjZ (qr ..) p! p!) (zjZ p! p! p!) (zjZ g4 p! p!)),z70,_h (by simp[cap])];rfl
  let ρ5:Ev:=[F!,i3!,en!,e! g,kp!,kq!,l!,bu! w2,bg! ([n! [e,Q,W],ck! g d2 W,ck! g Q d3]++[ck! g W Q,ck! 1 V W,ck! g V W,ck! (2*g) Q (rD w2)])];have lT:z2t [T] s3=gz! (W! [c! g,Q,W]):=by rw[hT];rfl
  have lQ:z2t [Q] s3=gz! (bJ! q):=by rw[hQ];rfl
  have sT:eSl N! zE (yD (E! 2)) ρ5 s3=gz! (n! [c! g,Q]):=by
   have t2:=z2k [c! g,Q,W] 2 s3;rw[<- hT]at t2;simp only[zaK,qh,z1e,qr,vr (ρ:=ρ5) (i:=2) (d:=T) rfl,Rb];exact t2
  have aT:eOp xh N! (vG (aU! B!)) ρ5 s3=gz! (n! [c! g,Q,W,cL!]):=by
   rw[op2 (x:=T) p! (show vG (aU! B!) ρ5 s3=gz! (n! [cL!]) from rfl),hT,z36,_h (by simp[cap])];rfl
  have f6:wE ρ5 s3=K! [F!,i3!,en!,e! g,kp!,kq!,l!,bu! w2,bg! (([n! [e,Q,W],ck! g d2 W,ck! g Q d3]++[ck! g W Q,ck! 1 V W,ck! g V W,ck! (2*g) Q (rD w2)])++[W! [c! g,Q,W],ck! g (bJ! q) W,n! [c! g,Q],n! [c! g,Q,W,cL!],o])] s4:=by
   rw[wE,zR,opS p! (zvG (by rw[g0!];exact lT) (zjZ p! (by rw[g0!];exact lQ) p!) sT aT (by rw[g0!];exact e4)),z70,_h (by simp[cap])];rfl
  generalize hM:([n! [e,Q,W],ck! g d2 W,ck! g Q d3]++[ck! g W Q,ck! 1 V W,ck! g V W,ck! (2*g) Q (rD w2)])++[W! [c! g,Q,W],ck! g (bJ! q) W,n! [c! g,Q],n! [c! g,Q,W,cL!],o]=dC at f6;obtain⟨r4,s5,e5,a4,b4,d5⟩:=vJ (f:=q!) (g:=E! 12) (far:=12) (ρ:=[F!,i3!,en!,e! g,kp!,kq!,l!,bu! w2,bg! dC]) mM.pot (by decide) (kO (by decide)) (by rfl) (by rfl);have fQ:r4.toNat<dC.length:=by rw[<- hM];simp;lia
  have iS:=wT (xs:=dC) (d:=dC[r4.toNat]) (s:=s5) a4 (by simp[fQ]);have f7:wF [F!,i3!,en!,e! g,kp!,kq!,l!,bu! w2,bg! dC] s4=.ok (.rt dC[r4.toNat]) s5:=by rw[wF,yo,opS p! e5,iS];rfl
  have kQ:Bn 400 Q:=by rw[hQ];exact Bn.row4 hq (by decide)
  have kW:Bn 400 W:=by rw[hW];exact Bn.row4 hw (by decide)
  have kV:Bn 400 V:=by rw[hV];exact Bn.row4 hv (by decide)
  have kX:Bn 400 (rD w2):=Bn.row4 hX (by decide);have kg:=bg g (by lia);have th:∀d∈dC,Th d:=hI! (by
   rw[<- hM]at hd;simp only[_bf,_ar,_s,_W,_bc]at hd;rcases hd with rfl | rfl | rfl | rfl | rfl | rfl | rfl | rfl | rfl | rfl | rfl | rfl;·exact nu! he kQ kW
   ·exact nu! kg (k2.up (by decide)) kW
   ·exact nu! kg kQ (k3.up (by decide))
   ·exact nu! kg kW kQ
   ·exact nu! (bg 1 (by lia)) kV kW
   ·exact nu! kg kV kW
   ·exact nu! (bg _ (by lia)) kQ kX
   ·exact Th.other rfl (by intro xs e;cases e)
   ·exact nu! kg Bn.lst kW
   ·exact Th.tup kg (cs! (by
     simp only[_s,_W,_bc]at hy;subst hy;exact kQ))
   ·exact Th.tup kg (cs! (by
     simp only[_s,_W,_bc]at hy;rcases hy with rfl | rfl | rfl;·exact kQ
     ·exact kW
     ·exact (bg 0 (by lia)).1))
   ·exact zr2 ho)
  refine⟨dC[r4.toNat],s5,?_,th _ (_O fQ),bb! (bb! (bb! (d1.trans mK) mL) mM) d5⟩;simp only[yr,Mof,qJ,st,_i,_k,_v];rw[zn f1,zn f2,zn f3,zn f4,zn f5,zn f6,f7]
 exact key _ _ _ _ rfl rfl rfl rfl
end
end aW
namespace Pr
open L2 Dd Pm Pg Pn Po
theorem m_many(n:Nat)(b:Nat):∃k:Nat,(al! ((al! (j! b<j! n) (j! b) n) > 1) (al! (j! b<j! n) (j! b) n) 1)=j! k/\k<=b+1:=by
 by_cases h:j! b<n
 ·rw[_h h];by_cases h2:j! b > 1;·exact⟨b,by rw[_h h2],by lia⟩
  ·exact⟨1,by rw[_o h2];rfl,by lia⟩
 ·rw[_o h];by_cases h2:j! n > 1;·exact⟨n,by rw[_h h2],by lia⟩
  ·exact⟨1,by rw[_o h2];rfl,by lia⟩
end Pr
namespace aW
open L2 Dd Pm Pg Pn Po Pb
noncomputable abbrev EV(sc:D)(a1 a2 a3 a4 a5 a6 a7 a8:fG!):Ev:=[b! sc,a1,a2,a3,a4,a5,a6,a7,a8]
noncomputable abbrev zqv:D->Ev->f4! Fl:=eA! (yg 1 d ρ s) ((zA z6f (du! z7S z7j z6y z6S (du! z77 z6W z3f z3C z3p))) ρ' s')
def EL(ns:h!)(ρ:Ev):k!:=∃a1 a2 a3 a4 a5 a6 a7 a8,ρ=EV e1! a1 a2 a3 a4 a5 a6 a7 a8
theorem ix0{f:FE}{ρ:Ev}{x:D}{xs:D!}{s:Sto}(h:ay!=bA! (x::xs)):hw! f B! ρ s=i! x:=by
 rw[op2 h (qr ..)];exact kv! (by decide)
section
variable {sc:D}{a1 a2 a3 a4 a5 a6 a7 a8:fG!}{n l:Nat}{v:h!}{r:Rl}{ls:f2!}{z:h!}{k:Nat}{B:Tb}{b:h!}{s:Sto}
theorem zpD(x:Str) (hx:PyData.strOk x=d!) (s:Sto):dNe bY! bY! s=cg!:=ne_self (k:=0) (d:=bY!) hx (by decide) s
noncomputable abbrev zaT(v b:h!):D:=n! [c! b3!,rD (zeY v),rD b]
theorem ztQ(h:jJ!) (S:Sh r n v ls z k B b):z6S (EV sc a1 a2 bk! d2! i1! a6 a7 a8) s=aW! (EV sc a1 a2 bk! d2! i1! (kj! v b) a7 a8):=by
 have gb:=z9M h;have c:=comp_map (fi:=kw!) (mp:=ad! 5) (fg:=yg 1) (fe:=ej! z3Y 1 q!) (ρ:=EV sc a1 a2 bk! d2! i1! a6 a7 a8) (s:=s) D.int (mM! (x / b3!)) (λx=>[i1!,e! x]) v (qV p!) (λx _=>by simp) (ah! (by rw[op2 (x:=c! x) (y:=c! b3!) p! p!,zak,bP! gb.2 (zrK gb.1 (by decide))])) (by have:=h.toLot.le4;simp[cap];lia);rw[show v.map (mM! (x / b3!))=iL (zeY v) by simp[zeY,_L]]at c;rw[z6S,zR,zjZ p! (by rw[yI c,z25]) (ix0 (by rw[l1!];exact zoG h S s))];rfl
theorem zkN(h:J!<=4)(hb:pl!<=4):uL 3 (zaT v b):=by
 have hq:v! (zeY v)<=4:=by simpa[zeY] using h
 refine⟨by simp[cap],ah! ?_⟩;simp only[_s,_W,_bc]at hx;rcases hx with rfl | rfl | rfl;·trivial
 ·exact zey 1 (by lia)
 ·exact zey 1 (by lia)
theorem zsO(h:jJ!)(S:Sh r n v ls z k B b):z77 (EV sc a1 a2 bk! d2! a5 (kj! v b) a7 a8) s=aW! (EV sc a1 a2 bk! d2! a5 (kj! v b) a7 a8):=by
 have lb:=(S.b_ok).1;have n4:n<=4:=by have:=h.sz;unfold Sz at this;lia
 have t:tOf (zg Pg.uB (ib! (zg zT (fr! B! 4 3)) 6)) (EV sc a1 a2 bk! d2! a5 (kj! v b) a7 a8) s=kY!:=by
  refine vz ?_;rw[call2 (by rw[zfW rfl p! p!];exact zpC h S s) p!];exact zls (k:=0) s (zkN (by rw[h.len];exact n4) (by lia))
 rw[z77,zdF];·rfl
 ·exact zrd (zdH t) (zdH t)
theorem zrf(h:jJ!)(S:Sh r n v ls z k B b):Th (zaT v b):=by
 have gb:=z9M h;have bo:=S.b_ok;refine nu! (It.int gb.1 (by decide)) (Bn.row4 (m:=104) (ah! ?_) (by decide)) (Bn.row4 bo.2.1 (by decide));obtain⟨y,hy,rfl⟩:=ho!;have y0:=h.nn y hy;have le:y / b3!<=y:=_du _ y0;have nn:0<=y / b3!:=_bO y0 (by lia);have:=h.abs y hy;lia
theorem zs1{things:D!}(h:jJ!)(ht:∀d∈things,Th d):∃y7,yU [] things (eA! (yg 7 d ρ s) (z31 ρ' s')) things (EV sc a1 a2 bk! a4 a5 a6 a7 a8) s=aW! (EV sc a1 a2 bk! a4 a5 a6 y7 a8):=by
 obtain⟨ρ',s',e,y7,e1,e2⟩:=zaa (body:=eA! (yg 7 d ρ s) (z31 ρ' s')) (fun ρ S'=>∃y7,ρ=EV sc a1 a2 bk! a4 a5 a6 y7 a8/\S'=s) things (λx hx ρ S' hI=>by
  obtain⟨y7,rfl,rfl⟩:=hI;obtain⟨w,t1,t2⟩:=zmH h (ht x hx).tn (ht x hx).hd S';refine⟨EV sc a1 a2 bk! a4 a5 a6 fk! a8,S',?_,fk!,rfl,rfl⟩;rw[ua,Rb];show z31 (EV sc a1 a2 bk! a4 a5 a6 fk! a8) S'=_;rw[z31,zdF];·rfl
  ·refine zdH (vz ?_);rw[call2 (by rw[zfW rfl p! p!];exact zqo t1) (by rw[l1!];exact t2)];exact zls (k:=0) S' trivial) (EV sc a1 a2 bk! a4 a5 a6 a7 a8) s (aB! a7 rfl);exact⟨y7,rI! (by rw[e1,e2])⟩
theorem zsR(h:jJ!) (S:Sh r n v ls z k B b) (hp:Pot s l):∃y7 s',z6W (EV sc a1 F! bk! a4 a5 (kj! v b) a7 a8) s=K! (EV sc a1 F! bk! a4 a5 (kj! v b) y7 a8) s'/\vc s s' l:=by
 have bo:=S.b_ok;have gb:=z9M h;have n4:2<=n/\n<=4:=by have:=h.sz;unfold Sz at this;lia
 have ql:v! (zeY v)=n:=by simp[zeY,h.len]
 have bq:∀x∈zeY v,c7! 104:=ah! (by
  obtain⟨y,hy,rfl⟩:=ho!;have y0:=h.nn y hy;have le:y / b3!<=y:=_du _ y0;have nn:0<=y / b3!:=_bO y0 (by lia);have:=h.abs y hy;lia)
 obtain⟨ys,s1,e,hl,hT,dr⟩:=zn6 (fi:=jW (aU! (E! 4))) (mp:=fl! 2 3 6) (fg:=yg 3) (fe:=zg yr (fr! q! 1 2)) (ρ:=EV sc a1 F! bk! a4 a5 (kj! v b) a7 a8) (fD! (ab! k)) (λk=>[F!,bk!,kj! v b,bT!]) (λS'=>vc s S' l) Th (iC! 4) (qZ (n:=4) (s1:=s) (by decide) rfl) (λa _ S'=>rfl) (λa _ S' dS=>by
   obtain⟨d,s',e1,th,d1⟩:=z8c (s:=S') (v:=v) dS.pot h.abs gb.1 bq (by lia) (by lia) bo.2.1 (by lia) (by lia);exact⟨d,s',by rw[zfW p! p! p!];exact e1,th,dS.trans d1⟩) (by simp[cap]) (vc.refl hp);obtain⟨y7,lp⟩:=zs1 (sc:=sc) (a1:=a1) (a2:=F!) (a4:=a4) (a5:=a5) (a6:=kj! v b) (a7:=a7) (a8:=a8) (s:=s1) (things:=zaT v b::ys) h (hI! (by
  rcases dE! hd with rfl | hd;·exact zrf h S
  ·exact hT d hd));refine⟨y7,s1,?_,dr⟩;have lst:eOp xh (qt (b6! 6)) (iS! (jW (aU! (E! 4))) (fl! 2 3 6) 3 (zg yr (fr! q! 1 2))) (EV sc a1 F! bk! a4 a5 (kj! v b) a7 a8) s=P! (W! (zaT v b::ys)):=by
  rw[opS (zw7 p!) e,z70,_h (by rw[hl];simp[cap])];rfl
 rw[z6W,jP,ke,lst,Rb];simp only[Rb];exact lp
end
section
variable {sc:D}{a1 a2 a3 a4 a5 a6 a7 a8:fG!}{n l:Nat}{v:h!}{r:Rl}{s:Sto}{dd bad:D}
theorem zrz(hk:Kd bad):z3C (EV sc a1 a2 a3 d2! a5 (b! dd) a7 kU!) s=aW! (EV sc a1 a2 a3 d2! a5 (b! dd) a7 kU!):=by
 rw[z3C,zdF];·rfl
 ·rcases zk3 hk s with⟨n',v',rfl,hv,h1,h2⟩ | ⟨h1,h2⟩
  ·rw[zj3,jR,vz (by rw[g0!,h2])];rfl
  ·rw[zj3,jR,vz (by rw[g0!,h2])];simp only[Rb,_v];have c2:ez! 2<=cap:=by decide
   refine vz ?_;rw[op2 ?_ (twice ..),zpA (by decide +kernel)];have g1:zg zT (fr! B! 4 8) (EV sc a1 a2 a3 d2! a5 (b! dd) a7 kU!) s=i! (aq! ai!):=by rw[zfW rfl p! p!];exact zjM r h1
   have g2:zg zT (fr! ae! 8 6) (EV sc a1 a2 a3 d2! a5 (b! dd) a7 kU!) s=i! (aq! ai!):=by rw[zfW rfl p! p!];exact zgJ h1
   simp only[z1d,zr,zK,g1,g2,Rb,_i,_k,_h c2]
theorem zqM{d3:D} (hp:Pot s l):∃s',z3p (EV sc a1 F! (b! d3) d2! a5 a6 a7 kU!) s=K! (EV sc a1 F! (b! d3) d2! a5 a6 a7 kU!) s':=by
 obtain⟨no,s1,e1,gy,d1⟩:=zhm r hp;obtain⟨t,s2,e2,t0,t1,d2⟩:=vJ (f:=N!) (g:=E! 2) (far:=2) (ρ:=EV sc a1 F! (b! d3) d2! a5 a6 a7 kU!) d1.pot (by decide) (kO (by decide)) rfl rfl;have ix:∃y,c5! (W! [d3,bad]) t s2=bp! y:=by
  have:t=0\/t=1:=by lia
  rcases this with rfl | rfl;·exact⟨d3,kv! (by decide)⟩
  ·exact⟨bad,kv! (by decide)⟩
 obtain⟨y,iy⟩:=ix;have l2:qt (hP! 3 8) (EV sc a1 F! (b! d3) d2! a5 a6 a7 kU!) s1=P! (W! [d3,bad]):=rfl;have w:zg zT (zb B! (cd! (gu! Pg.xr 2 4) (cl! (qt (hP! 3 8)) (ek! pJ! N! (E! 2))))) (EV sc a1 F! (b! d3) d2! a5 a6 a7 kU!) s=bp! (aq! cv!):=by
  have n1:zg Pg.xr (hP! 2 4) (EV sc a1 F! (b! d3) d2! a5 a6 a7 kU!) s=P! no:=by rw[l1!,e1]
  have n2:=opS (o:=dIx) l2 e2;rw[iy]at n2;rw[yi,zr,qr,Rb,zr,n1,Rb,zr,n2,Rb,zK];simp only[Rb];exact zik (zpW gy s2)
 have w2:tOf (eOp dNe (zg zT (zb B! (cd! (gu! Pg.xr 2 4) (cl! (qt (hP! 3 8)) (ek! pJ! N! (E! 2)))))) (bG! cv!)) (EV sc a1 F! (b! d3) d2! a5 a6 a7 kU!) s=bp! t!:=by
  rw[tOf,opS w (qr ..),zpD _ (by decide +kernel)];rfl
 refine aw! s2 ?_;rw[z3p,z6U,w2];rfl
end
theorem zoI(ns:h!) (j:Nat) (ρ:Ev) (s:Sto) (h:EL ns ρ):∃ ρ' s',zqv (c! j) ρ s=K! ρ' s'/\EL ns ρ':=by
 obtain⟨a1,a2,a3,a4,a5,a6,a7,a8,rfl⟩:=h;rw[show zqv (c! j) (EV e1! a1 a2 a3 a4 a5 a6 a7 a8) s=(zA z6f (du! z7S z7j z6y z6S (du! z77 z6W z3f z3C z3p))) (EV e1! aY! a2 a3 a4 a5 a6 a7 a8) s from rfl];obtain⟨c,e1⟩:=zpK ns j s;obtain⟨q,e2⟩:=ztL c s;have hp:Pot (s++[[c! q]]) ct!:=⟨q,by simp⟩;obtain⟨n,v,s1,e3,hv,d1⟩:=zu7 hp;have n4:2<=n/\n<=4:=by have:=hv.sz;unfold Sz at this;lia
 have f2:z6f (EV e1! aY! a2 a3 a4 a5 a6 a7 a8) s=K! (EV e1! aY! Q! a3 a4 a5 a6 a7 a8) (s++[[c! q]]):=by rw[z6f,zR,yI (by rw[l1!,e1]),e2];rfl
 have f3:z7S (EV e1! aY! Q! a3 a4 a5 a6 a7 a8) (s++[[c! q]])=g6! (EV e1! aY! Q! bk! a4 a5 a6 a7 a8):=by rw[z7S,zR,g0!,e3];rfl
 obtain⟨r,s2,e4,d2⟩:=zq0 (f:=N!) (ρ:=EV e1! aY! Q! bk! a4 a5 a6 a7 a8) d1.pot p!;have f4:z7j (EV e1! aY! Q! bk! a4 a5 a6 a7 a8) s1=K! (EV e1! aY! Q! bk! d2! a5 a6 a7 a8) s2:=by rw[z7j,zR,e4];rfl
 have f5:z6y (EV e1! aY! Q! bk! d2! a5 a6 a7 a8) s2=K! (EV e1! aY! Q! bk! d2! i1! a6 a7 a8) s2:=by rw[z6y,zR,g0!,zpS iM!];rfl
 obtain⟨ls,z,k,B,b,S⟩:=ztz r hv;have f6:=ztQ (sc:=e1!) (a1:=aY!) (a2:=Q!) (a6:=a6) (a7:=a7) (a8:=a8) (s:=s2) hv S;have f7:=zsO (sc:=e1!) (a1:=aY!) (a2:=Q!) (a5:=i1!) (a7:=a7) (a8:=a8) (s:=s2) hv S;obtain⟨y7,s3,f9,d3⟩:=zsR (sc:=e1!) (a1:=aY!) (a4:=d2!) (a5:=i1!) (a7:=a7) (a8:=a8) hv S d2.pot;have lv:=hv.len;obtain⟨bad,s4,pJ,kb,d4⟩:=zj7 d3.pot hv.abs (by decide) (by lia) (by lia);have f12:z3f (EV e1! aY! Q! bk! d2! i1! (kj! v b) y7 a8) s3=K! (EV e1! aY! Q! bk! d2! i1! (kj! v b) y7 kU!) s4:=by rw[z3f,zR,l1!,pJ];rfl
 have f13:=zrz (sc:=e1!) (a1:=aY!) (a2:=Q!) (a3:=bk!) (a5:=i1!) (dd:=zaT v b) (a7:=y7) (r:=r) (s:=s4) kb.kd;obtain⟨s5,f15⟩:=zqM (sc:=e1!) (a1:=aY!) (d3:=M!) (r:=r) (a5:=i1!) (a6:=kj! v b) (a7:=y7) (bad:=bad) d4.pot;have w:=iY! f2 (iY! f3 (iY! f4 (iY! f5 (iY! f6 (iY! f7 (iY! f9 (iY! f12 (iY! f13 f15))))))));exact⟨_,s5,w,_,_,_,_,_,_,_,_,rfl⟩
theorem zrt(ns:h!):∃ ρ' s',zdp (EV e1! a! a! a! a! a! a! a! a!) []=K! ρ' s':=by
 obtain⟨k,ek,hk⟩:=Pr.m_many fA! 12;rw[show ab! 12=12 from rfl]at ek;obtain⟨ρ',s',e,_⟩:=zaa (fun ρ _=>EL ns ρ) (yt k) (λx hx ρ s hI=>by
  obtain⟨j,_,rfl⟩:=zg5 hx;exact zoI ns j ρ s hI) (EV e1! a! a! a! a! a! a! a! a!) [] ⟨_,_,_,_,_,_,_,_,rfl⟩;refine aN! ρ' s' ?_;unfold zdp;rw[jP,qZ (n:=k) (s1:=[]) (by lia) (by simp only[yi,zr,zK,qr,yh,_c,Rb,yF,zW,_X,zlb,zkR,ek]),Rb];exact e
theorem zkW:∀ns:List Int,fA!<=63->∃s',zoe [.scr ie!] []=bj! eV!:=λns hn=>by
 obtain⟨ρ',s',e⟩:=zrt ns;refine aw! s' ?_;have st:zy [mf!,qQ!,dI!,bL!,fW!,ox!,mi!,ew!,"_law_bad"] [.scr ie!]=EV e1! a! a! a! a! a! a! a! a!:=rfl;unfold zoe Mof zlt;rw[_h (by rfl),st,zn e];rfl
end aW
namespace aW
open L2 Dd Pg
theorem zp6:∀x∈rsX,x∈askQ.xs:=by decide +kernel
theorem zwb:∀x∈csX,x∈askQ.xs:=by decide +kernel
theorem zwd:∀x∈rsX,∀y∈csX,((x,y),x==y)∈askQ.ps:=by decide +kernel
theorem zw8:o! lg!∈askQ.xs:=by decide +kernel
theorem zwm:∀x∈rsX,((x,o! lg!),d!)∈askQ.ps:=by decide +kernel
theorem all_mk{P:Program}{w:World}{K:W.Frag}{h:Heap}{mg:Str->aL!}{fa:Addr}(X:hZ!)(G:oH! mg)(pK:mg "law"=a0! fa)(e:zeB he! K=i9! he!) : ∃fd:FuncData,(∀(s:Shared)(v:Value),qm! s fd (dN! [v]) [(mf!,v)])/\∀base:Heap,K.In R!->ss! mg->z9Z P w K mg R! CX0 16 fa fd [mf!] (zo4 K):=by
 obtain⟨rz,rA,pL,mO⟩:=zm5 X G e 71 rfl;have e0:=pK.symm.trans pL;cases e0;obtain⟨oc,od,kV,aE,pm,an,aj,ct,cD,rfl,hl,hc⟩:=mO.ex;have GG:∀(x:Str)(v:Value),gq! K x=b! bB!->mg x=bB!:=λx v h=>W.mg_of X G h;have:Txt P w K mg:=⟨zlO X G e 0 rfl,zlO X G e 1 rfl,qg X G e 0 rfl,qg X G e 1 rfl,qg X G e 2 rfl,qg X G e 3 rfl,qg X G e 4 rfl,qg X G e 5 rfl,qg X G e 6 rfl,qg X G e 7 rfl,qg X G e 8 rfl,qg X G e 9 rfl,qg X G e 10 rfl,qg X G e 11 rfl,qg X G e 12 rfl,qg X G e 13 rfl,qg X G e 14 rfl,qg X G e 15 rfl,qg X G e 16 rfl,λi _ _=>zm5 X G e i,zsn X G e "RULES" zf5 (_x (i:=0) rfl),z9E GG (zbr e hd! (zp6 _ (by decide +kernel))),z9E GG (zbr e hc! (zp6 _ (by decide +kernel))),z9E GG (zbr e je! (zp6 _ (by decide +kernel))),z9E GG (zbr e jf! (zp6 _ (by decide +kernel))),zh6 GG (ah! (zbr e x (zp6 x hx))) (ah! (zbr e x (zwb x hx))) (λx hx y hy=>by rw[zrv e x y (x==y) (zwd x hx y hy)];rfl),ah! (zoC GG (zbr e x (zp6 x hx)) (zbr e lg! zw8) (by rw[zrv e x lg! d! (zwm x hx)];rfl))⟩;refine⟨W.fnOf "law" "law" (ki z8F) (xS z8F) (zm z8F) aa! kV aE pm an aj ct,λs v=>.of_eq rfl,λbase _ _=>?_⟩;exact zrp (x:="law") (zfq mO) zkW
theorem boot_:∀w:World,jO! (W.fencedOpening se! p6! w 12154) (I!,s.gens,s.drawn,fU!)=b! (j5!,jB!,p7!,p8!):= W.boot_open (by kernel_rfl) (by decide) (λs=>by kernel_rfl)
theorem left_:W.LeftO p6! qv looseQ xtQ (obsS he!) (valS he!) 12154:=ziu "special-get-raises" boot_ (λw os=>z8E (f:=λs=>(m8! s,obsS he! s)) (zv1 w) (bsz w) (zcR (zaV w os) (zbL w os))) (λw os=>z8E (f:=λs=>(m8! s,obsS he! s)) (zv1 w) (bsz w) (zcR (zdu w os) (zdL w os)))
end aW
end
end
open PySem PySem.Spec PyProof.Rows
open PySem.W
set_option maxRecDepth 100000 in
set_option maxHeartbeats 0 in
theorem PySem.Challenge.cw_drawndown_k23_showings_holds : PySem.Challenge.rw_drawndown_k23_showings.Holds := by
  w_on; refine holds_law aW.said_ λpM => ?_
  refine holds_open (q := aW.qv) (loose := aW.looseQ) (Xt := aW.xtQ) (XP := XL aW.qv aW.lvQ) (Yf := Dd.obsS aW.askQ) (Ya := Dd.valS aW.askQ) (YP := Dd.saysS aW.askQ) (N := 12154) aW.left_ (Dd.zmM aW.askQ) (Dd.zfY aW.askQ) (λs e => xl_of s (_ad.mp e).1) XL.keeps (by rfl) (by rfl) (by rfl) (λs e => recFacts_of (_ad.mp e).2) (by rfl) (by first | assumption | decide +kernel) (by decide +kernel) ⟨rfl, rfl, rfl, rfl, rfl, by decide +kernel⟩ ?hw ?hc
  (case hw => w_witness2)
  refine Dd.walkY (l := PySem.Challenge.rw_drawndown_k23_showings) (n := 63) (k := 16) (x := "_law_script") rfl (by decide) (by decide) rfl ⟨rfl, by decide, by decide, rfl⟩ ?F
  case F =>
    intro w mg fa h Yy G cV XP
    obtain⟨K, KX, e⟩ := Yy
    exact⟨K, KX, aW.all_mk KX G cV e ⟩
